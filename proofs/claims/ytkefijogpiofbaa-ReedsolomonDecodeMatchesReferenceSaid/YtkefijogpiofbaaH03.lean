/- Several texts in one: Qa, Qb, Qc, Qg, Qk, Qt, Qu, Qx, Qz, Ra, Gold, Fe, FieldL, Fp. -/
import Derived.Laws.CopyRow
import Derived.Laws.IdiomCopy
import Derived.Great.FillDense
import Derived.Great.BuildSlice
import Derived.Test.YtkefijogpiofbaaH02
import Derived.RangeFuncCalls
import Derived.Deep.Cut
import Derived.Deep.CutRange
import Derived.Deep.RegionWith
import Derived.TacticsInMore
import Derived.LoopNIn
import Derived.LoopIn
import Derived.RangeFuncNested
import Derived.RangeFuncBound
import Derived.RangeFuncLeaves
import Derived.RangeFuncBox
import Derived.Shelf.RegionOpen
import Derived.Laws.EntriesVeiled
import Derived.Sort.CutIn
import Derived.Laws.BytesArg
namespace Go.Proofs.Ytkefijogpiofbaa.K
set_option linter.unusedVariables false
set_option linter.unusedSimpArgs false
set_option linter.unusedSectionVars false
set_option maxRecDepth 8000
open Go.RowKit
/-- how an element lies in cells -/
class Enc {α : Type} (E : α → List Value) (k : outParam Nat) : Prop where
  len : ∀ x, (E x).length = k
  one : ∀ x, ∀ u ∈ E x, u.oneCell' = true
  pos : 0 < k
section
variable {α : Type} {E : α → List Value} {k : Nat} [hE : Enc E k]
theorem fl_length (xs : List α) : (xs.flatMap E).length = xs.length * k := by
  induction xs with
  | nil => simp
  | cons x xs ih => simp only [List.flatMap_cons, List.length_append, ih, hE.len, List.length_cons, Nat.add_mul]; omega
include hE in
theorem fl_one (xs : List α) : ∀ u ∈ xs.flatMap E, u.oneCell' = true := by
  intro u hu
  obtain ⟨x, _, h⟩ := List.mem_flatMap.1 hu
  exact hE.one x u h
theorem fl_take (xs : List α) : ∀ i, (xs.flatMap E).take (i * k) = (xs.take i).flatMap E := by
  induction xs with
  | nil => simp
  | cons x xs ih =>
    intro i
    cases i with
    | zero => simp
    | succ i =>
      have h1 : (i + 1) * k = (E x).length + i * k := by rw [hE.len, Nat.add_mul]; omega
      rw [List.flatMap_cons, h1, List.take_length_add_append, ih, List.take_succ_cons, List.flatMap_cons]
theorem fl_drop (xs : List α) : ∀ i, (xs.flatMap E).drop (i * k) = (xs.drop i).flatMap E := by
  induction xs with
  | nil => simp
  | cons x xs ih =>
    intro i
    cases i with
    | zero => simp
    | succ i =>
      have h1 : (i + 1) * k = (E x).length + i * k := by rw [hE.len, Nat.add_mul]; omega
      rw [List.flatMap_cons, h1, List.drop_length_add_append, ih, List.drop_succ_cons]
theorem fl_get {xs : List α} {i : Nat} {x : α} (h : xs[i]? = some x) (j : Nat) (hj : j < k) : (xs.flatMap E)[i * k + j]? = (E x)[j]? := by
  have hd : (xs.flatMap E)[i * k + j]? = ((xs.flatMap E).drop (i * k))[j]? := by rw [List.getElem?_drop]
  obtain ⟨hi, rfl⟩ := List.getElem?_eq_some_iff.1 h
  rw [hd, fl_drop, List.drop_eq_getElem_cons hi, List.flatMap_cons, List.getElem?_append_left (by rw [hE.len]; exact hj)]
theorem fl_set (xs : List α) (i : Nat) (y : α) (hi : i < xs.length) : (xs.flatMap E).take (i * k) ++ E y ++ (xs.flatMap E).drop (i * k + (E y).length) = (xs.set i y).flatMap E := by
  have h1 : i * k + (E y).length = (i + 1) * k := by rw [hE.len, Nat.add_mul]; omega
  rw [h1, fl_take, fl_drop, List.set_eq_take_append_cons_drop, if_pos hi, List.flatMap_append, List.flatMap_cons, List.append_assoc]
/-- the address of a cell behind a slice's head -/
def gad (A : Option Addr) (j : Nat) : Addr := match A with
  | some a => a.add j
  | none => ⟨0, 0, none⟩
theorem gad_base (b j : Nat) : gad (some ⟨b, 0, none⟩) j = ⟨b, j, none⟩ := by simp [gad, Addr.add_mid]
/-- a slice that reads as xs -/
structure Sg {α : Type} (E : α → List Value) (k : Nat) (w : World) (A : Option Addr) (n c : Nat) (xs : List α) : Prop where
  len : xs.length = n
  cap : n ≤ c
  top : c ≤ 9223372036854775807
  nil : A = none → c = 0
  at_ : ∀ i x, xs[i]? = some x → ∃ g off, A = some ⟨g, off, none⟩ ∧ w.rangeAt g (off + i * k) (E x)
variable {w w' : World} {A : Option Addr} {n c : Nat} {xs : List α}
theorem Sg.keep (h : Sg E k w A n c xs) (hb : Below w.heap.size w w') : Sg E k w' A n c xs :=
  ⟨h.len, h.cap, h.top, h.nil, fun i x hx => by obtain ⟨g, off, e, hr⟩ := h.at_ i x hx; exact ⟨g, off, e, fun j v hj => cell_keep (hr j v hj) hb⟩⟩
theorem Sg.nil_ (w : World) : Sg E k w none 0 0 ([] : List α) := ⟨rfl, Nat.le_refl _, by omega, fun _ => rfl, fun i x h => by simp at h⟩
theorem Sg.src (h : Sg E k w A n c xs) : SrcC w A n k (xs.flatMap E) :=
  ⟨by rw [fl_length, h.len], fun e => by have := h.nil e; have := h.cap; omega, fun j u hu => by
    have hk := hE.pos
    have hj : j < xs.length * k := by rw [← fl_length (E := E)]; exact (List.getElem?_eq_some_iff.1 hu).1
    have hi : j / k < xs.length := (Nat.div_lt_iff_lt_mul hk).2 hj
    have hm : j / k * k + j % k = j := Nat.div_add_mod' j k
    have hg := fl_get (E := E) (List.getElem?_eq_getElem hi) (j % k) (Nat.mod_lt _ hk)
    rw [hm, hu] at hg
    obtain ⟨g, off, e, hr⟩ := h.at_ (j / k) _ (List.getElem?_eq_getElem hi)
    refine ⟨_, e, ?_⟩
    have := hr (j % k) u hg.symm
    rw [Addr.add_mid]
    rwa [Nat.add_assoc, hm] at this, fl_one xs⟩
theorem Sg.take {m : Nat} (h : Sg E k w A n c xs) (hm : m ≤ n) : Sg E k w A m c (xs.take m) :=
  ⟨by rw [List.length_take, h.len]; omega, by have := h.cap; omega, h.top, h.nil, fun i x hx => h.at_ i x (by rw [List.getElem?_take] at hx; split at hx <;> simp_all)⟩
/-- a block that holds xs -/
def RowG {α : Type} (E : α → List Value) (w : World) (b : Nat) (t : TypeId) (xs : List α) : Prop := w.heap[b]? = some (.cells (xs.flatMap E).toArray t (0, 0))
theorem RowG.sg {b : Nat} {t : TypeId} (h : RowG E w b t xs) (hn : xs.length = n) (hc : n ≤ c) (ht : c ≤ 9223372036854775807) : Sg E k w (some ⟨b, 0, none⟩) n c xs :=
  ⟨hn, hc, ht, fun e => (by cases e), fun i x hx => ⟨b, 0, rfl, fun j v hv => by
    have hj : j < k := by rw [← hE.len x]; exact (List.getElem?_eq_some_iff.1 hv).1
    rw [cell_of_row w b _ _ t (0, 0) h, Nat.zero_add]
    rw [← hv, ← fl_get hx j hj]
    simp⟩⟩
theorem RowG.keep {b : Nat} {t : TypeId} (h : RowG E w b t xs) (hb : Below w.heap.size w w') : RowG E w' b t xs := heap_keep h hb
theorem RowG.h {b : Nat} {t : TypeId} (h : RowG E w b t xs) : w.heap[b]? = some (.cells (xs.flatMap E).toArray t (0, 0)) := h
theorem RowG.lt {b : Nat} {t : TypeId} (h : RowG E w b t xs) : b < w.heap.size := xp_lt h
/-- a slice of the call's own -/
theorem Sg.own {base : Nat} {e : TypeId} {v : Value} (h : w.ownsRow base e k v n (xs.flatMap E)) : ∃ A c, v = .slice A n c ∧ Sg E k w A n c xs := by
  have hn : xs.length = n := by
    have h1 := h.1
    rw [fl_length] at h1
    exact Nat.eq_of_mul_eq_mul_right hE.pos h1
  rcases h.2 with ⟨rfl, rfl⟩ | ⟨g, cap, cur, rfl, hb, hg, hc, hm, hs, ht⟩
  · have : xs = [] := List.eq_nil_of_length_eq_zero hn
    subst this
    exact ⟨_, _, rfl, Sg.nil_ w⟩
  · refine ⟨_, cap, rfl, hn, hc, by unfold maxLen at hm; omega, fun e => (by cases e), fun i x hx => ⟨g, 0, rfl, fun j v hv => ?_⟩⟩
    have hj : j < k := by rw [← hE.len x]; exact (List.getElem?_eq_some_iff.1 hv).1
    have hi := (List.getElem?_eq_some_iff.1 hx).1
    have hlt : i * k + j < n * k := by
      have h1 : (i + 1) * k ≤ n * k := Nat.mul_le_mul_right _ (by omega)
      rw [Nat.add_mul] at h1
      omega
    rw [cell_of_row w g _ cur e (0, 0) hg, Nat.zero_add, ← hv, ← fl_get hx j hj, ← ht, List.getElem?_take, if_pos hlt]
    simp
theorem Sg.ownS {base : Nat} {e : TypeId} (h : w.ownsRow base e k (.slice A n c) n (xs.flatMap E)) : Sg E k w A n c xs := by
  obtain ⟨A2, c2, e1, hs⟩ := Sg.own h
  injection e1 with e1 _ e2
  subst e1 e2
  exact hs
variable {P : Program} {ev : Operand → Value} {o : Oper} {ty t : TypeId} {x y : Operand}
theorem xg_idx {e : TypeId} {i : Nat} {a : α} (kk : IntKind) (h : Sg E k w A n c xs) (ha : xs[i]? = some a) (hu : P.underlying ty = some (.slice e)) (hs : (P.info? e).map (·.size) = some k) (ho : o.op = .indexAddr ty x y) (hx : ev x = .slice A n c) (hy : ev y = .int kk (i : Int)) :
    (execOp ev o).run P w = .ok (.value (.pointer (some (gad A (i * k))))) w := by
  obtain ⟨g, off, rfl, _⟩ := h.at_ i a ha
  have hi := (List.getElem?_eq_some_iff.1 ha).1
  rw [h.len] at hi
  exact xo_index kk _ n c i k hi hu hs ho hx hy
/-- a cell of an element -/
theorem xg_load1 {d : TypeDesc} {i j q : Nat} {a : α} {v : Value} (h : Sg E k w A n c xs) (ha : xs[i]? = some a) (hq : q = i * k + j) (hv : (E a)[j]? = some v) (hu : P.underlying ty = some d) (hd : (match d with | .struct _ | .array _ _ => true | _ => false) = false) (ho : o.op = .load ty x) (hx : ev x = .pointer (some (gad A q))) :
    (execOp ev o).run P w = .ok (.value v) w := by
  obtain ⟨g, off, rfl, hr⟩ := h.at_ i a ha
  refine xo_load1 _ v ?_ hu hd ho hx
  subst hq
  have := hr j v hv
  simp only [gad, Addr.add_mid]
  rwa [← Nat.add_assoc]
/-- cells of an element, together -/
theorem xg_loadR {d : TypeDesc} {i j q : Nat} {a : α} {cs : List Value} (h : Sg E k w A n c xs) (ha : xs[i]? = some a) (hq : q = i * k + j) (hv : ∀ m u, cs[m]? = some u → (E a)[j + m]? = some u) (hu : P.underlying ty = some d) (hd : d.isRow = true) (hi : (P.info? ty).map (·.size) = some cs.length) (ho : o.op = .load ty x) (hx : ev x = .pointer (some (gad A q))) :
    (execOp ev o).run P w = .ok (.value (.agg cs.toArray)) w := by
  obtain ⟨g, off, rfl, hr⟩ := h.at_ i a ha
  subst hq
  refine xo_loadR g (off + (i * k + j)) cs (fun m u hm => ?_) hu hd hi ho (by rw [hx]; simp [gad, Addr.add_mid])
  have := hr (j + m) u (hv m u hm)
  rwa [show off + (i * k + j) + m = off + i * k + (j + m) by omega]
theorem xg_loadE {d : TypeDesc} {i : Nat} {a : α} (h : Sg E k w A n c xs) (ha : xs[i]? = some a) (hu : P.underlying ty = some d) (hd : d.isRow = true) (hi : (P.info? ty).map (·.size) = some k) (ho : o.op = .load ty x) (hx : ev x = .pointer (some (gad A (i * k)))) :
    (execOp ev o).run P w = .ok (.value (.agg (E a).toArray)) w :=
  xg_loadR (j := 0) h ha rfl (fun m u hm => by rw [Nat.zero_add]; exact hm) hu hd (by rw [hi, hE.len]) ho hx
/-- a field of an element -/
theorem xg_fld {i q j : Nat} {a : α} (f : Nat) (h : Sg E k w A n c xs) (ha : xs[i]? = some a) (hf : fldOK P ty f j = true) (ho : o.op = .fieldAddr ty x f) (hx : ev x = .pointer (some (gad A q))) :
    (execOp ev o).run P w = .ok (.value (.pointer (some (gad A (q + j))))) w := by
  obtain ⟨g, off, rfl, hr⟩ := h.at_ i a ha
  have hx' : ev x = .pointer (some ⟨g, off + q, none⟩) := by rw [hx]; simp [gad, Addr.add_mid]
  have := xo_fld (P := P) (w := w) f g (off + q) j hf ho hx'
  rw [this]
  simp [gad, Addr.add_mid, Nat.add_assoc]
/-- an element is stored into a block -/
theorem xg_store {b i : Nat} (h : RowG E w b t xs) (hi : i < xs.length) (a : α) (hs : (P.info? ty).map (·.size) = some k) (ho : o.op = .store ty x y) (hx : ev x = .pointer (some (gad (some ⟨b, 0, none⟩) (i * k)))) (hy : (ev y).cells = (E a).toArray) :
    (execOp ev o).run P w = .ok .skip (w.setRow b ((xs.set i a).flatMap E).toArray) := by
  have hst := run_storeCells_at P b (i * k) t (E a) 0 (xs.flatMap E).toArray w h (by
    have h1 : (i + 1) * k ≤ xs.length * k := Nat.mul_le_mul_right _ hi
    rw [Nat.add_mul] at h1
    simp only [List.size_toArray, fl_length, hE.len]
    omega) (hE.one a)
  rw [Nat.add_zero, List.toList_toArray] at hst
  rw [fl_set xs i a hi] at hst
  rw [gad_base] at hx
  cases hq : P.info? ty with
  | none => simp [hq] at hs
  | some inf =>
    have hsz : inf.size = k := by simpa [hq] using hs
    unfold execOp
    simp only [ho, hx, Instr.storeAt, Instr.sureAddr, Sem.run_bind, Sem.run_pure, Result.andThen_ok, storeVar, sizeOf, typeInfo, run_program, hq, hsz, hy]
    simp [hE.len, hst, Sem.run_bind]
/-- n new elements -/
theorem mk_cells (z : Value) (a : α) (hz : z.cells = (E a).toArray) (n : Nat) : madeCells z.cells (n * k) = ((List.replicate n a).flatMap E).toArray := by
  have hk := hE.pos
  apply Array.ext'
  apply List.ext_getElem?
  intro j
  by_cases hj : j < n * k
  · have hi : j / k < n := (Nat.div_lt_iff_lt_mul hk).2 hj
    have hm : j / k * k + j % k = j := Nat.div_add_mod' j k
    have hg := fl_get (E := E) (xs := List.replicate n a) (i := j / k) (x := a) (by simp [List.getElem?_replicate, hi]) (j % k) (Nat.mod_lt _ hk)
    rw [hm] at hg
    rw [List.toList_toArray, hg, hz]
    have hlt : j % (E a).length < (E a).length := by rw [hE.len]; exact Nat.mod_lt _ hk
    simp only [madeCells, Array.toList_map, Array.toList_range, List.getElem?_map, List.size_toArray, List.getElem?_range hj, Option.map_some]
    rw [← hE.len a, List.getElem?_eq_getElem hlt]
    simp [hlt]
  · rw [List.getElem?_eq_none (by rw [Array.length_toList, size_madeCells]; omega), List.getElem?_eq_none (by rw [List.toList_toArray, fl_length, List.length_replicate]; omega)]
theorem xg_make {e : TypeId} {bytes : Nat} (z : Value) (a : α) (m : Nat) (kl : IntKind) (ht : P.underlying ty = some (.slice e)) (hinf : (P.info? e).map (fun i => (i.zero, i.size, i.bytes)) = some (some z, k, bytes)) (hz : z.cells = (E a).toArray) (hb : bytes * m ≤ 281474976710656) (h63 : m ≤ 9223372036854775807)
    (ho : o.op = .makeSlice ty x y) (hx : ev x = .int kl (m : Int)) (hy : ev y = .int kl (m : Int)) :
    (execOp ev o).run P w = .ok (.value (.slice (some ⟨w.heap.size, 0, none⟩) m m)) (w.alloc (.cells ((List.replicate m a).flatMap E).toArray e)) := by
  obtain ⟨i, hi, hiz, hs, hby⟩ := info_parts hinf
  have hb' : (i.bytes : Int) * (m : Int) ≤ 281474976710656 := by
    have h : ((i.bytes * m : Nat) : Int) ≤ 281474976710656 := by rw [hby]; omega
    rwa [Int.natCast_mul] at h
  have hr := run_make (P := P) w ty e i z ht hi hiz kl kl m m (by omega) (Int.le_refl _) hb' (by omega)
  simp only [Int.toNat_natCast] at hr
  rw [hs, mk_cells z a hz] at hr
  unfold execOp
  simp [ho, hx, hy, Sem.run_bind, hr]
/-- bits in common, shifts -/
theorem xo_and (kk : IntKind) (u v r : Nat) (hu : u < 2 ^ kk.bits) (hv : v < 2 ^ kk.bits) (h : u &&& v = r) (hr : kk.wrap (r : Int) = (r : Int)) (ho : o.op = .binOp .and ty x y t) (hx : ev x = .int kk (u : Int)) (hy : ev y = .int kk (v : Int)) :
    (execOp ev o).run P w = .ok (.value (.int kk (r : Int))) w := by
  have e : (Op.intBits .and kk (u : Int) (v : Int)).run P w = .ok (.int kk (r : Int)) w := by
    have e1 : (BitVec.ofInt kk.bits (u : Int) &&& BitVec.ofInt kk.bits (v : Int)).toNat = r := by
      rw [BitVec.toNat_and]
      simp only [BitVec.ofInt_natCast, BitVec.toNat_ofNat, Nat.mod_eq_of_lt hu, Nat.mod_eq_of_lt hv, h]
    simp only [Op.intBits, e1, hr]
    rfl
  unfold execOp
  simp [ho, hx, hy, eqGuard, binOp, Sem.run_bind, e]
theorem xo_shlI (kk : IntKind) (u n r : Nat) (h : u * 2 ^ n = r) (hr : r < 9223372036854775808) (ho : o.op = .binOp .shl ty x y t) (hx : ev x = .int .i64 (u : Int)) (hy : ev y = .int kk (n : Int)) (hn : n < 63 := by omega) :
    (execOp ev o).run P w = .ok (.value (.int .i64 (r : Int))) w := by
  have hm : min (n : Int).toNat IntKind.i64.bits = n := by rw [Int.toNat_natCast]; show min n 64 = n; omega
  have e : (u : Int) * 2 ^ n = (r : Int) := by rw [← h]; simp
  have e0 : IntKind.i64.wrap ((u : Int) * 2 ^ n) = (r : Int) := by rw [e, wrapI (by omega) (by omega)]
  unfold execOp
  simp [ho, hx, hy, eqGuard, binOp, Sem.run_bind, hm]
  exact e0
theorem xo_quoN (kk : IntKind) (u v r : Nat) (hv : 1 ≤ v) (h : u / v = r) (hr : kk.wrap (r : Int) = (r : Int)) (ho : o.op = .binOp .quo ty x y t) (hx : ev x = .int kk (u : Int)) (hy : ev y = .int kk (v : Int)) : (execOp ev o).run P w = .ok (.value (.int kk (r : Int))) w :=
  xo_div .quo kk (u : Int) (v : Int) (r : Int) (by omega) (.inl ⟨rfl, by rw [Int.tdiv_eq_ediv_of_nonneg (by omega), ← Int.natCast_ediv, h, hr]⟩) ho hx hy
/-- a slice literal -/
theorem xg_lit {e : TypeId} {bytes : Nat} (z : Value) (ys : List Operand) (xs : List α) (n : Nat) (ht : P.underlying ty = some (.slice e)) (hinf : (P.info? e).map (fun i => (i.zero, i.size, i.bytes)) = some (some z, k, bytes)) (hn : ys.length = n) (hsmall : ¬ n * k > 2 ^ 24) (hpos : ¬ n = 0)
    (ho : o.op = .buildSlice ty n ((ys.zipIdx 0).map fun x => (x.2, x.1)).toArray) (hv : ys.map (fun y => (ev y).cells.toList) = xs.map E) :
    (execOp ev o).run P w = .ok (.value (.slice (some ⟨w.heap.size, 0, none⟩) n n)) (w.alloc (.cells (xs.flatMap E).toArray e)) := by
  obtain ⟨i, hi, hz, hs, hby⟩ := info_parts hinf
  have hk := hE.pos
  have hxs : xs.length = ys.length := by have := congrArg List.length hv; simpa using this.symm
  have h1 : ∀ v ∈ ys.map ev, v.cells.size = k := by
    intro v hm
    obtain ⟨y, hy, rfl⟩ := List.mem_map.1 hm
    have : (ev y).cells.toList ∈ xs.map E := by rw [← hv]; exact List.mem_map.2 ⟨y, hy, rfl⟩
    obtain ⟨x, _, hx⟩ := List.mem_map.1 this
    have h2 := hE.len x
    rw [hx, Array.length_toList] at h2
    exact h2
  have hf := Great.fill_whole hk (ys.map ev) ((Array.range (n * k)).map (z.cells[· % z.cells.size]!)) h1 (by simp [hn])
  have he : ((ys.map ev).flatMap fun v => v.cells.toList) = xs.flatMap E := by
    rw [List.flatMap_map, List.flatMap_def, List.flatMap_def]
    exact congrArg List.flatten hv
  rw [he] at hf
  have hp : (((ys.zipIdx 0).map fun x => (x.2, x.1)).toArray.map fun (i, x) => (i, ev x)).toList = ((ys.map ev).zipIdx 0).map fun x => (x.2, x.1) := by
    rw [List.zipIdx_map, List.map_map]
    simp [List.map_map]
  have hr := run_buildSlice (P := P) w ty e n (((ys.zipIdx 0).map fun x => (x.2, x.1)).toArray.map fun (i, x) => (i, ev x)) (xs.flatMap E).toArray i z ht hi hz (by rw [hs]; exact hsmall) (by rw [hs]; intro h0; rcases Nat.mul_eq_zero.1 h0 with h0 | h0 <;> omega) (by rw [hs, hp]; exact hf)
  unfold execOp
  simp only [ho, Sem.run_bind, hr, Result.andThen_ok]
  rfl
/-- a copy into a block -/
theorem xg_copy {e : TypeId} {b dl dc m d : Nat} {ts : TypeId} {B : Option Addr} {ys : List α} (h : RowG E w b t xs) (hd : dl = xs.length) (hsrc : Sg E k w B m d ys) (hm : m ≤ dl) (hu : P.underlying ty = some (.slice e)) (hs : (P.info? e).map (·.size) = some k)
    (ho : o.op = .call { callee := .builtin .copy, args := #[x, y], argTypes := #[ty, ts] }) (hx : ev x = .slice (some ⟨b, 0, none⟩) dl dc) (hy : ev y = .slice B m d) :
    (execOp ev o).run P w = .ok (.value (.int .i64 (m : Int))) (w.setRow b ((ys ++ xs.drop m).flatMap E).toArray) := by
  have hmin : Nat.min m dl = m := Nat.min_eq_left hm
  have hl := hsrc.len
  have hlen : (ys.flatMap E).length = m * k := by rw [fl_length, hl]
  have hst := run_storeCells_at P b 0 t (ys.flatMap E) 0 (xs.flatMap E).toArray w h (by
    rw [hlen, List.size_toArray, fl_length, ← hd]
    have := Nat.mul_le_mul_right k hm
    omega) (fl_one ys)
  rw [Nat.add_zero, List.toList_toArray, List.take_zero, List.nil_append, hlen, Nat.zero_add, fl_drop, ← List.flatMap_append] at hst
  cases hq : P.info? e with
  | none => simp [hq] at hs
  | some i =>
    have hi : i.size = k := by simpa [hq] using hs
    unfold execOp
    cases B with
    | some a =>
      have hld := run_loadCells_list (P := P) w a (ys.flatMap E) (fun j u hj => by
        obtain ⟨ad, e1, hc⟩ := hsrc.src.cell j u hj
        injection e1 with e1
        subst e1
        exact hc)
      rw [hlen] at hld
      simp [ho, hx, hy, resolve, invoke, builtin, Builtin.copy_, run_underlying hu, Builtin.lenOf, Builtin.firstCells, sizeOf, typeInfo, hq, hi, hmin, hld, hst, Sem.run_bind, goInt]
    | none =>
      have h0 := hsrc.nil rfl
      have h1 := hsrc.cap
      obtain rfl : m = 0 := by omega
      have hys : ys = [] := List.eq_nil_of_length_eq_zero hl
      subst hys
      rw [List.nil_append, List.drop_zero, setRow_self w b _ t (0, 0) h]
      simp [ho, hx, hy, resolve, invoke, builtin, Builtin.copy_, run_underlying hu, Builtin.lenOf, Builtin.firstCells, sizeOf, typeInfo, hq, hi, storeCells, Sem.run_bind, goInt]
variable {Q : Exit → Act → World → Prop} {ops : Array Oper}
/-- a write of a whole row that yields a value -/
theorem wpList_rowV {rest : List Oper} {o : Oper} {a : Act} {w : World} (v : Value) (g : Nat) (old row : Array Value) (t : TypeId) (hw : Region.wanted o (yielded ops a.tmps) = true) (hg : w.heap[g]? = some (.cells old t (0, 0))) (hr : (execOp a.eval o).run P w = .ok (.value v) (w.setRow g row))
    (h : ∀ W, W.heap[g]? = some (.cells row t (0, 0)) → (∀ k o, k ≠ g → w.heap[k]? = some o → W.heap[k]? = some o) → (∀ B v0, B ≤ g → Below B v0 w → Below B v0 W) → W.heap.size = w.heap.size → wpList P ops Q rest (a.put o.dst v) W) : wpList P ops Q (o :: rest) a w := by
  refine wpList_run hw v _ hr (h _ ?_ (fun k o hk h0 => ?_) (fun B v0 hB hb => bel_setRow hb hB _) (by simp [World.setRow]))
  · simp [World.setRow, Array.getElem?_modify, hg]
  · simp [World.setRow, Array.getElem?_modify, Ne.symm hk, h0]
end
end Go.Proofs.Ytkefijogpiofbaa.K

namespace Go.Proofs.Ytkefijogpiofbaa.K
set_option linter.unusedVariables false
set_option linter.unusedSimpArgs false
set_option linter.unusedSectionVars false
set_option maxRecDepth 8000
open Go.RowKit
/-- a step of an iterator: nothing below N changes, no cells change -/
structure Abide (N : Nat) (A B : World) : Prop where
  below : Below N A B
  cells : ∀ (b : Nat) (o : Obj), A.heap[b]? = some o → o.isCells = true → B.heap[b]? = some o
theorem Abide.refl (N : Nat) (A : World) : Abide N A A := ⟨Below.refl _ _, fun _ _ h _ => h⟩
theorem Abide.trans {N : Nat} {A B C : World} (h : Abide N A B) (k : Abide N B C) : Abide N A C := ⟨h.below.trans k.below, fun b o ho hc => k.cells b o (h.cells b o ho hc) hc⟩
theorem Abide.mono {N M : Nat} {A B : World} (h : Abide N A B) (hM : M ≤ N) : Abide M A B := ⟨h.below.mono hM, h.cells⟩
theorem Abide.putObj {N l : Nat} {A : World} {o : Obj} (o' : Obj) (h : A.heap[l]? = some o) (hc : o.isCells = false) (hN : N ≤ l) : Abide N A (A.putObj l o') :=
  ⟨⟨rfl, rfl, rfl, by simp, fun k hk => World.putObj_heap_other (by omega)⟩, fun b q hq hqc => by
    have e : b ≠ l := by
      rintro rfl
      rw [h] at hq
      cases hq
      rw [hc] at hqc
      cases hqc
    exact (World.putObj_heap_other e).trans hq⟩
theorem Abide.cell {N : Nat} {A B : World} (h : Abide N A B) {p : Addr} {v : Value} (hc : A.cell? p = some v) : B.cell? p = some v := by
  have hlt := World.block_lt_of_cell? _ _ hc
  have ho := Array.getElem?_eq_getElem hlt
  have hcell : (A.heap[p.block]'hlt).isCells = true := by
    have := hc
    unfold World.cell? at this
    rw [ho] at this
    cases hh : A.heap[p.block]'hlt <;> rw [hh] at this <;> first | rfl | (simp at this)
  exact (World.cell?_of_block ((h.cells _ _ ho hcell).trans ho.symm)).trans hc
/-- what a round keeps for the iterator: whatever lies at or beyond N, but for cells -/
structure KeepI (N : Nat) (A B : World) : Prop where
  size : A.heap.size ≤ B.heap.size
  same : ∀ (b : Nat) (o : Obj), N ≤ b → A.heap[b]? = some o → Obj.isCells o = false → B.heap[b]? = some o
theorem KeepI.refl (N : Nat) (A : World) : KeepI N A A := ⟨Nat.le_refl _, fun _ _ _ h _ => h⟩
theorem KeepI.trans {N : Nat} {A B C : World} (h : KeepI N A B) (k : KeepI N B C) : KeepI N A C := ⟨Nat.le_trans h.size k.size, fun b o hb ho hd => k.same b o hb (h.same b o hb ho hd) hd⟩
theorem KeepI.mono {N M : Nat} {A B : World} (h : KeepI N A B) (hM : N ≤ M) : KeepI M A B := ⟨h.size, fun b o hb => h.same b o (by omega)⟩
theorem KeepI.putObj {N l : Nat} {A : World} (o' : Obj) (hN : l < N) : KeepI N A (A.putObj l o') := ⟨by simp, fun b o hb ho _ => (World.putObj_heap_other (by omega)).trans ho⟩
theorem KeepI.setCell {N : Nat} {A : World} (p : Addr) (v : Value) (hp : p.block < N) : KeepI N A (A.setCell p v) :=
  ⟨by simp [World.setCell], fun b o hb ho _ => (Below.heap_setCell A p v b (by omega)).trans ho⟩
theorem KeepI.setRow {N x : Nat} {A : World} (cs : Array Value) (hx : x < N) : KeepI N A (A.setRow x cs) :=
  ⟨by simp [World.setRow], fun b o hb ho _ => by
    have : x ≠ b := by omega
    simp [World.setRow, Array.getElem?_modify, this]
    exact ho⟩
theorem KeepI.cell {N : Nat} {A B : World} (h : KeepI N A B) {p : Addr} {v : Value} (hp : N ≤ p.block) (hc : A.cell? p = some v) (hd : ∀ o, A.heap[p.block]? = some o → Obj.isCells o = false) : B.cell? p = some v := by
  have hlt := World.block_lt_of_cell? _ _ hc
  have ho := Array.getElem?_eq_getElem hlt
  exact (World.cell?_of_block ((h.same _ _ hp ho (hd _ ho)).trans ho.symm)).trans hc
/-- nothing but cells changes -/
structure Kin (A B : World) : Prop where
  size : A.heap.size ≤ B.heap.size
  same : ∀ (b : Nat) (o : Obj), A.heap[b]? = some o → o.isCells = false → B.heap[b]? = some o
theorem Kin.refl (A : World) : Kin A A := ⟨Nat.le_refl _, fun _ _ h _ => h⟩
theorem Kin.trans {A B C : World} (h : Kin A B) (k : Kin B C) : Kin A C := ⟨Nat.le_trans h.size k.size, fun b o ho hd => k.same b o (h.same b o ho hd) hd⟩
theorem Kin.keep {A B : World} (h : Kin A B) (N : Nat) : KeepI N A B := ⟨h.size, fun b o _ ho hd => h.same b o ho hd⟩
theorem Kin.far {A B : World} {g : Nat} {o : Obj} (hg : A.heap[g]? = some o) (hc : o.isCells = true) (hs : A.heap.size ≤ B.heap.size) (hfar : ∀ k o, k ≠ g → A.heap[k]? = some o → B.heap[k]? = some o) : Kin A B :=
  ⟨hs, fun b q hq hd => hfar b q (fun e => by subst e; rw [hg] at hq; injection hq with hq; subst hq; rw [hc] at hd; cases hd) hq⟩
theorem Kin.grown {A B : World} {base : Nat} {e : TypeId} {size n : Nat} {v : Value} {cs : List Value} (h : A.ownsRow base e size v n cs) (hg : A.grownBy B v.ownBlock) : Kin A B :=
  ⟨hg.size, fun b q hq hd => (hg.block b (Array.getElem?_eq_some_iff.1 hq).1 (fun he => by
    rcases h.2 with ⟨rfl, _⟩ | ⟨g, cap, cur, rfl, hb, hgg, _⟩
    · cases he
    · simp only [Value.ownBlock] at he
      injection he with he
      subst he
      rw [hgg] at hq
      injection hq with hq
      subst hq
      cases hd)).trans hq⟩
section
variable {P : Program} {Q : Exit → Act → World → Prop} {ops : Array Oper} {w : World} {n : Nat} {ty : TypeId} {x y : Operand}
/-- an element of one cell is stored into a slice of the call's own -/
theorem own_at {base : Nat} {e : TypeId} {size : Nat} {v : Value} {cs : List Value} {i : Nat} (h : w.ownsRow base e size v n cs) (hi : i < n) : ∃ g cap, v = .slice (some ⟨g, 0, none⟩) n cap ∧ base ≤ g := by
  rcases h.2 with ⟨rfl, rfl⟩ | ⟨g, cap, cur, rfl, hb, _⟩
  · omega
  · exact ⟨g, cap, rfl, hb⟩
theorem wpList_ownStore {rest : List Oper} {o : Oper} {a : Act} {w : World} {base g cap i : Nat} {e : TypeId} {cs : List Value} (u : Value) (hw : Region.wanted o (yielded ops a.tmps) = true) (hown : w.ownsRow base e 1 (.slice (some ⟨g, 0, none⟩) n cap) n cs) (hi : i < n) (hz : (P.info? ty).map (·.size) = some 1) (h1 : u.oneCell' = true)
    (ho : o.op = .store ty x y) (hx : a.eval x = .pointer (some ((⟨g, 0, none⟩ : Addr).add i))) (hy : a.eval y = u)
    (h : ∀ W, W.ownsRow base e 1 (.slice (some ⟨g, 0, none⟩) n cap) n (cs.set i u) → (∀ k o, k ≠ g → w.heap[k]? = some o → W.heap[k]? = some o) → (∀ B v0, B ≤ g → Below B v0 w → Below B v0 W) → Kin w W → wpList P ops Q rest (a.put o.dst undef) W) : wpList P ops Q (o :: rest) a w := by
  have hst := World.ownsRow.stored hown i u
  rw [ad_base] at hx
  have hown' := hown
  rcases hown'.2 with ⟨hn, _⟩ | ⟨g', cap', cur, e1, hb, hg, hc, hm, hs, ht⟩
  · cases hn
  · simp only [Value.slice.injEq, Option.some.injEq, Addr.mk.injEq, and_true, true_and] at e1
    obtain ⟨rfl, rfl⟩ := e1
    have hlt : i < cur.size := by rw [hs]; omega
    refine wpList_run0 hw _ (xo_store1 g i cur cur[i] u hg (by simp [hlt]) hz h1 ho hx hy) (h _ hst.1 (fun k o hk h0 => ?_) (fun B v0 hB hbb => hbb.setCell hB _) (Kin.far hg rfl (by simp [World.setCell]) (fun k o hk h0 => ?_)))
    · exact (Below.heap_setCell w _ _ k hk).trans h0
    · exact (Below.heap_setCell w _ _ k hk).trans h0
end
theorem hOp_callA {P : Program} {o : Oper} {a : Act} {w : World} {K : Value → World → Prop} {fn : Func} (f : FuncId) (hf : P.funcs[f]? = some fn) (hname : (fn.name == "runtime.NumGoroutine") = false) (hb : fn.body.isNone = false) (x : Tmp) (xs : Array Operand) (lb : Array Value) (ts : Array TypeId) (ho : o.op = .call { callee := .value (.tmp x), args := xs, argTypes := ts })
    (hx : a.eval (.tmp x) = .func (.func f) #[] lb) (args : Array Value) (hargs : xs.map a.eval = args) (h : Calls P f (args ++ lb) w fun e w' => ∃ v, e = .returned v ∧ K v w') : hOp P o K a w := by
  unfold hOp execOp
  simp only [ho]
  have e : (do let d ← resolve a.eval { callee := .value (.tmp x), args := xs, argTypes := ts } o.type; invoke d.target d.args : Sem Next).run P w = .ok (.enter f (args ++ lb)) w := by
    have h1 : fn.name ≠ "runtime.NumGoroutine" := by simpa using hname
    have h2 : fn.body ≠ none := by
      intro e
      rw [e] at hb
      cases hb
    have hx' : a.tmps[x]?.getD undef = .func (.func f) #[] lb := by simpa [Act.eval] using hx
    subst hargs
    simp [resolve, Deferred.ofValue, invoke, go_sem, hx', callFunc, hf, h1, h2]
  rw [e]
  exact h
section
variable {P : Program}
end
section
variable {p : Nat} {F : Nat → Value → Prop} {w0 W : World} {T : Bool → World → Prop} {m m' : Nat → Bool} {vs : Nat → Value}
end
end Go.Proofs.Ytkefijogpiofbaa.K

namespace Go.Proofs.Ytkefijogpiofbaa
set_option linter.unusedVariables false
set_option linter.unusedSimpArgs false
set_option linter.unusedSectionVars false
set_option maxRecDepth 8000
open Go.RowKit Go.Proofs.Ytkefijogpiofbaa.K
/-- a reading -/
structure Rd where
  who : Int
  when_ : Int
  kind : Int
  value : Int
/-- a slice's head -/
structure Hd where
  A : Option Addr
  n : Nat
  c : Nat
/-- an operation on a stream -/
structure Opn where
  b0 : Nat
  b1 : Nat
  b2 : Nat
  back : Bool
def rdC (r : Rd) : List Value := [.int .i64 r.who, .int .i64 r.when_, .int .i64 r.kind, .int .i64 r.value]
def boC (b : Bool) : List Value := [.bool b]
def wdC (n : Nat) : List Value := [.int .u64 (n : Int)]
def byC (n : Nat) : List Value := [.int .u8 (n : Int)]
def hdC (h : Hd) : List Value := [.slice h.A h.n h.c]
def opC (o : Opn) : List Value := [.int .u8 (o.b0 : Int), .int .u8 (o.b1 : Int), .int .u8 (o.b2 : Int), .bool o.back]
instance : Enc rdC 4 := ⟨fun _ => rfl, fun x u hu => by simp only [rdC, List.mem_cons, List.not_mem_nil, or_false] at hu; rcases hu with rfl | rfl | rfl | rfl <;> rfl, by omega⟩
instance : Enc boC 1 := ⟨fun _ => rfl, fun x u hu => by simp only [boC, List.mem_cons, List.not_mem_nil, or_false] at hu; subst hu; rfl, by omega⟩
instance : Enc wdC 1 := ⟨fun _ => rfl, fun x u hu => by simp only [wdC, List.mem_cons, List.not_mem_nil, or_false] at hu; subst hu; rfl, by omega⟩
instance : Enc byC 1 := ⟨fun _ => rfl, fun x u hu => by simp only [byC, List.mem_cons, List.not_mem_nil, or_false] at hu; subst hu; rfl, by omega⟩
instance : Enc hdC 1 := ⟨fun _ => rfl, fun x u hu => by simp only [hdC, List.mem_cons, List.not_mem_nil, or_false] at hu; subst hu; rfl, by omega⟩
instance : Enc opC 4 := ⟨fun _ => rfl, fun x u hu => by simp only [opC, List.mem_cons, List.not_mem_nil, or_false] at hu; rcases hu with rfl | rfl | rfl | rfl <;> rfl, by omega⟩
/-- cells of a list -/
abbrev fl {α : Type} (E : α → List Value) (xs : List α) : List Value := xs.flatMap E
def fldI (r : Rd) : Nat → Int
  | 0 => r.who
  | 1 => r.when_
  | 2 => r.kind
  | _ => r.value
def widN : Nat → Nat
  | 0 => 4
  | 2 => 4
  | _ => 8
/-- field j lies within its width -/
def fokB (r : Rd) (j : Nat) : Bool := decide (0 ≤ fldI r j ∧ fldI r j < ((2 ^ widN j : Nat) : Int))
def vR (r : Rd) : Bool := fokB r 0 && fokB r 1 && fokB r 2 && fokB r 3
theorem vR_iff {r : Rd} : vR r = true ↔ (0 ≤ r.who ∧ r.who < 16) ∧ (0 ≤ r.when_ ∧ r.when_ < 256) ∧ (0 ≤ r.kind ∧ r.kind < 16) ∧ (0 ≤ r.value ∧ r.value < 256) := by
  simp only [vR, fokB, fldI, widN, Bool.and_eq_true, decide_eq_true_eq]
  constructor
  · rintro ⟨⟨⟨h0, h1⟩, h2⟩, h3⟩
    exact ⟨⟨h0.1, by have := h0.2; omega⟩, ⟨h1.1, by have := h1.2; omega⟩, ⟨h2.1, by have := h2.2; omega⟩, h3.1, by have := h3.2; omega⟩
  · rintro ⟨h0, h1, h2, h3⟩
    exact ⟨⟨⟨⟨h0.1, by have := h0.2; omega⟩, h1.1, by have := h1.2; omega⟩, h2.1, by have := h2.2; omega⟩, h3.1, by have := h3.2; omega⟩
/-- the reading of three bytes -/
def decR (a b c : Nat) : Rd := ⟨((a % 16 : Nat) : Int), (b : Int), ((a / 16 : Nat) : Int), (c : Int)⟩
theorem vR_dec {a b c : Nat} (ha : a < 256) (hb : b < 256) (hc : c < 256) : vR (decR a b c) = true := by
  rw [vR_iff]
  simp only [decR]
  omega
/-- a stream: readings, and which are gone -/
def opS (most : Nat) (s : List Rd × List Bool) (o : Opn) : List Rd × List Bool :=
  if o.back then (if 0 < s.1.length then (if s.2.getD (o.b0 % s.1.length) false then s else (s.1, s.2.set (o.b0 % s.1.length) true)) else s)
  else if s.1.length < most then (s.1 ++ [decR o.b0 o.b1 o.b2], s.2 ++ [false]) else s
/-- what holds of such a stream -/
structure StO (most : Nat) (rs : List Rd) (gs : List Bool) : Prop where
  same : gs.length = rs.length
  most : rs.length ≤ most
  ok : ∀ r ∈ rs, vR r = true
theorem StO.op {most : Nat} {s : List Rd × List Bool} (h : StO most s.1 s.2) (o : Opn) (h0 : o.b0 < 256) (h1 : o.b1 < 256) (h2 : o.b2 < 256) : StO most (opS most s o).1 (opS most s o).2 := by
  unfold opS
  split
  · split
    · split
      · exact h
      · exact ⟨by simp [h.same], h.most, h.ok⟩
    · exact h
  · split
    · next hl =>
      refine ⟨by simp [h.same], by simp; omega, fun r hr => ?_⟩
      rcases List.mem_append.1 hr with hr | hr
      · exact h.ok r hr
      · rw [List.mem_singleton] at hr
        subst hr
        exact vR_dec h0 h1 h2
    · exact h
theorem StO.nil (most : Nat) : StO most [] [] := ⟨rfl, Nat.zero_le _, fun r hr => by cases hr⟩
end Go.Proofs.Ytkefijogpiofbaa

namespace Go.Proofs.Ytkefijogpiofbaa
set_option linter.unusedVariables false
set_option linter.unusedSimpArgs false
set_option linter.unusedSectionVars false
set_option maxRecDepth 8000
open Go.RowKit Go.Proofs.Ytkefijogpiofbaa.K
/-- blocks of the call's own that hold columns -/
structure RowsU (w : World) (t : TypeId) (base : Nat) (bs : List Nat) (xss : List (List Nat)) : Prop where
  len : bs.length = xss.length
  ge : ∀ b ∈ bs, base ≤ b
  nd : bs.Nodup
  row : ∀ (i b : Nat) (xs : List Nat), bs[i]? = some b → xss[i]? = some xs → RowG wdC w b t xs
section
variable {w w' : World} {t : TypeId} {base : Nat} {bs : List Nat} {xss : List (List Nat)}
theorem RowsU.keep (h : RowsU w t base bs xss) (hb : Below w.heap.size w w') : RowsU w' t base bs xss := ⟨h.len, h.ge, h.nd, fun i b xs hi hx => (h.row i b xs hi hx).keep hb⟩
theorem RowsU.far (h : RowsU w t base bs xss) {g : Nat} (hg : g ∉ bs) (hfar : ∀ k o, k ≠ g → w.heap[k]? = some o → w'.heap[k]? = some o) : RowsU w' t base bs xss :=
  ⟨h.len, h.ge, h.nd, fun i b xs hi hx => hfar b _ (fun e => hg (by rw [← e]; exact List.mem_of_getElem? hi)) (h.row i b xs hi hx)⟩
theorem RowsU.lt (h : RowsU w t base bs xss) : ∀ b ∈ bs, b < w.heap.size := fun b hb => by
  obtain ⟨i, hi, rfl⟩ := List.mem_iff_getElem.1 hb
  exact (h.row i _ _ (List.getElem?_eq_getElem hi) (List.getElem?_eq_getElem (by rw [← h.len]; exact hi))).lt
theorem RowsU.nil : RowsU w t base [] [] := ⟨rfl, fun b hb => (by cases hb), List.nodup_nil, fun i b xs h => (by simp at h)⟩
theorem RowsU.store (h : RowsU w t base bs xss) {c b : Nat} {ys : List Nat} (hc : bs[c]? = some b) (hr : RowG wdC w' b t ys) (hfar : ∀ k o, k ≠ b → w.heap[k]? = some o → w'.heap[k]? = some o) : RowsU w' t base bs (xss.set c ys) :=
  ⟨by simp [h.len], h.ge, h.nd, fun i d xs hi hx => by
    by_cases e : i = c
    · subst e
      rw [hc] at hi
      injection hi with hi
      subst hi
      rw [List.getElem?_set_self (by rw [← h.len]; exact (List.getElem?_eq_some_iff.1 hc).1)] at hx
      injection hx with hx
      subst hx
      exact hr
    · rw [List.getElem?_set_ne (Ne.symm e)] at hx
      refine hfar d _ (fun e2 => e ?_) (h.row i d xs hi hx)
      subst e2
      obtain ⟨h1, h2⟩ := List.getElem?_eq_some_iff.1 hi
      obtain ⟨h3, h4⟩ := List.getElem?_eq_some_iff.1 hc
      exact (List.getElem_inj h.nd).1 (h2.trans h4.symm)⟩
end
/-- columns that are read -/
structure Cols (w : World) (A : Option Addr) (n c : Nat) (hs : List Hd) (xss : List (List Nat)) : Prop where
  head : Sg hdC 1 w A n c hs
  len : hs.length = xss.length
  row : ∀ (i : Nat) (h : Hd) (xs : List Nat), hs[i]? = some h → xss[i]? = some xs → Sg wdC 1 w h.A h.n h.c xs
theorem Cols.keep {w w' : World} {A : Option Addr} {n c : Nat} {hs : List Hd} {xss : List (List Nat)} (h : Cols w A n c hs xss) (hb : Below w.heap.size w w') : Cols w' A n c hs xss :=
  ⟨h.head.keep hb, h.len, fun i d xs hi hx => (h.row i d xs hi hx).keep hb⟩
theorem fl_append {α : Type} (E : α → List Value) (xs ys : List α) : fl E (xs ++ ys) = fl E xs ++ fl E ys := List.flatMap_append ..
theorem fl_set1 {α : Type} (E : α → List Value) (f : α → Value) [hE : Enc E 1] (xs : List α) (i : Nat) (x : α) (h : ∀ x, E x = [f x] := by intro x; rfl) : fl E (xs.set i x) = (fl E xs).set i (f x) := by
  induction xs generalizing i with
  | nil => simp
  | cons a xs ih =>
    cases i with
    | zero => simp [h]
    | succ i =>
      simp only [fl, List.set_cons_succ, List.flatMap_cons, h, List.singleton_append] at ih ⊢
      rw [ih]
theorem own_rowkeep {w w' : World} {base b : Nat} {e u : TypeId} {size n : Nat} {v : Value} {cs : List Value} {ds : Array Value} (h : w.ownsRow base e size v n cs) (hg : w.grownBy w' v.ownBlock) (hb : w.heap[b]? = some (.cells ds u (0, 0))) (hne : u ≠ e) : w'.heap[b]? = some (.cells ds u (0, 0)) :=
  (hg.block b (xp_lt hb) (fun he => by
    rcases h.2 with ⟨rfl, _⟩ | ⟨g, cap, cur, rfl, hbs, hgg, _⟩
    · cases he
    · simp only [Value.ownBlock] at he
      injection he with he
      subst he
      rw [hgg] at hb
      injection hb with hb
      injection hb with _ hb2
      exact hne hb2.symm)).trans hb
theorem own_farT {w w' : World} {base b : Nat} {e u : TypeId} {size n : Nat} {v : Value} {cs : List Value} {ds : Array Value} (h : w.ownsRow base e size v n cs) (hb : w.heap[b]? = some (.cells ds u (0, 0))) (hne : u ≠ e) (hfar : ∀ k o, k ≠ b → w.heap[k]? = some o → w'.heap[k]? = some o) : w'.ownsRow base e size v n cs := by
  refine ⟨h.1, ?_⟩
  rcases h.2 with hn | ⟨g, cap, cur, rfl, hbs, hgg, rest⟩
  · exact .inl hn
  · exact .inr ⟨g, cap, cur, rfl, hbs, hfar g _ (fun e2 => by
      subst e2
      rw [hgg] at hb
      injection hb with hb
      injection hb with _ hb2
      exact hne hb2.symm) hgg, rest⟩
end Go.Proofs.Ytkefijogpiofbaa

namespace Go.Proofs.Ytkefijogpiofbaa.K
set_option linter.unusedVariables false
set_option linter.unusedSimpArgs false
set_option linter.unusedSectionVars false
set_option maxRecDepth 8000
open Go.RowKit
/-- orders: taken first (it only looks), alone, or one of two -/
inductive OT where
  | nil : OT
  | q (i : Nat) (t : OT) : OT
  | one (i : Nat) (t : OT) : OT
  | fork (i : Nat) (t : OT) (j : Nat) (u : OT) : OT
def OT.len : OT → Nat
  | .nil => 0
  | .q _ t => t.len + 1
  | .one _ t => t.len + 1
  | .fork _ t _ _ => t.len + 1
def OT.qs : List Nat → OT → OT
  | [], t => t
  | i :: is, t => .q i (OT.qs is t)
section
variable {P : Program} {ops : Array Oper} {S : World → Prop} {Q : Exit → Act → World → Prop}
def wpOT (P : Program) (ops : Array Oper) (S : World → Prop) (Q : Exit → Act → World → Prop) : OT → Act → World → Prop
  | .nil, a, w => Q .normal a w
  | .q i t, a, w => ∃ o, ops[i]? = some o ∧ ∃ v, YieldsIf P ops S o v a ∧ wpOT P ops S Q t (a.put o.dst v) w
  | .one i t, a, w => ∃ o, ops[i]? = some o ∧ Region.wanted o (yielded ops a.tmps) = true ∧ hOp P o (fun v w' => S w' ∧ wpOT P ops S Q t (a.put o.dst v) w') a w
  | .fork i t j u, a, w => (∃ o, ops[i]? = some o ∧ Region.wanted o (yielded ops a.tmps) = true ∧ hOp P o (fun v w' => S w' ∧ wpOT P ops S Q t (a.put o.dst v) w') a w) ∧
      (∃ o, ops[j]? = some o ∧ Region.wanted o (yielded ops a.tmps) = true ∧ hOp P o (fun v w' => S w' ∧ wpOT P ops S Q u (a.put o.dst v) w') a w)
def okT (ops : Array Oper) : OT → Array Bool → Bool
  | .nil, m => (Region.ready .any ops m).isEmpty
  | .q i t, m => Region.free .any ops m i && (Region.ready .any ops m).contains i && okT ops t (m.setIfInBounds i true)
  | .one i t, m => (Region.ready .any ops m == [i]) && okT ops t (m.setIfInBounds i true)
  | .fork i t j u, m => (Region.ready .any ops m == [i, j]) && (t.len == u.len) && okT ops t (m.setIfInBounds i true) && okT ops u (m.setIfInBounds j true)
theorem wpAnyH_of_wpOT (hs : Region.noSelect ops = true) (hQ : ∀ c a (dt : Option Tmp) v w, Q (.panic c) (Act.put a dt v) w → Q (.panic c) a w) : ∀ (t : OT) (m : Array Bool) (a : Act) (w : World), okT ops t m = true → S w → wpOT P ops S Q t a w → wpAnyH P .any ops Q S t.len m a w
  | .nil, m, a, w, ho, hS, h => wpAnyH_done (by unfold okT at ho; simpa using ho) h _
  | .q i t, m, a, w, ho, hS, h => by
    unfold okT at ho
    rw [Bool.and_eq_true, Bool.and_eq_true] at ho
    obtain ⟨o, hi, v, hy, hk⟩ := h
    exact wpAnyH_take hi hs ho.1.1 ho.1.2 (fun c a w h => hQ c a _ _ w h) hy hS (wpAnyH_of_wpOT hs hQ t _ _ w ho.2 hS hk)
  | .one i t, m, a, w, ho, hS, h => by
    unfold okT at ho
    rw [Bool.and_eq_true] at ho
    obtain ⟨o, hi, hw, hk⟩ := h
    refine wpAnyH_all (rs := [i]) (by simpa using ho.1) (by simp) ?_
    intro j hj
    obtain rfl : j = i := by simpa using hj
    exact wpOp_of_hOp hi hw (hOp_mono (fun v w' hk => ⟨hk.1, wpAnyH_of_wpOT hs hQ t _ _ w' ho.2 hk.1 hk.2⟩) hk)
  | .fork i t j u, m, a, w, ho, hS, h => by
    unfold okT at ho
    rw [Bool.and_eq_true, Bool.and_eq_true, Bool.and_eq_true] at ho
    obtain ⟨⟨⟨h1, h2⟩, h3⟩, h4⟩ := ho
    have h2 : t.len = u.len := by simpa using h2
    obtain ⟨⟨o, hi, hw, hk⟩, ⟨o2, hi2, hw2, hk2⟩⟩ := h
    refine wpAnyH_all (rs := [i, j]) (by simpa using h1) (by simp) ?_
    intro q hq
    rcases List.mem_cons.1 hq with rfl | hq
    · exact wpOp_of_hOp hi hw (hOp_mono (fun v w' hk => ⟨hk.1, wpAnyH_of_wpOT hs hQ t _ _ w' h3 hk.1 hk.2⟩) hk)
    · obtain rfl : q = j := by simpa using hq
      exact wpOp_of_hOp hi2 hw2 (hOp_mono (fun v w' hk => ⟨hk.1, by have := wpAnyH_of_wpOT hs hQ u _ _ w' h4 hk.1 hk.2; rw [← h2] at this; exact this⟩) hk2)
theorem wp_ordT (S : World → Prop) (t : OT) {id : Nat} {a : Act} {w : World} {l : List Oper} (hm : P.follows .mixedOrders = true) (hs : Region.noSelect l.toArray = true) (hQ : ∀ c a (dt : Option Tmp) v w, Q (.panic c) (Act.put a dt v) w → Q (.panic c) a w)
    (hn : t.len = l.length) (ho : okT l.toArray t (Array.replicate l.length false) = true) (hS : S w.drew) (h : wpOT P l.toArray S Q t a w.drew) : (Code.region id l.toArray true).wp P Q a w := by
  refine wp_region_held (S := S) hm ?_
  have := wpAnyH_of_wpOT hs hQ t _ a w.drew ho hS h
  rw [hn] at this
  simpa using this
theorem wpOT_nil {a : Act} {w : World} (h : Q .normal a w) : wpOT P ops S Q .nil a w := h
theorem wpOT_q {i : Nat} {t : OT} {o : Oper} {l : List Oper} {a : Act} {w : World} (v : Value) (hi : l[i]? = some o) (hw : Region.wanted o (yielded l.toArray a.tmps) = true) (hr : ∀ w', S w' → (execOp a.eval o).run P w' = .ok (.value v) w') (h : wpOT P l.toArray S Q t (a.put o.dst v) w) : wpOT P l.toArray S Q (.q i t) a w :=
  ⟨o, by simpa using hi, v, .inl ⟨hw, hr⟩, h⟩
theorem wpOT_one {i : Nat} {t : OT} {o : Oper} {l : List Oper} {a : Act} {w : World} (hi : l[i]? = some o) (hw : Region.wanted o (yielded l.toArray a.tmps) = true) (h : hOp P o (fun v w' => S w' ∧ wpOT P l.toArray S Q t (a.put o.dst v) w') a w) : wpOT P l.toArray S Q (.one i t) a w :=
  ⟨o, by simpa using hi, hw, h⟩
end
section
variable {P : Program}
theorem hOp_val {o : Oper} {a : Act} {w : World} {K : Value → World → Prop} (v : Value) (hr : (execOp a.eval o).run P w = .ok (.value v) w) (h : K v w) : hOp P o K a w := by
  unfold hOp
  rw [hr]
  exact h
/-- a store of a whole row -/
theorem hOp_storeW {o : Oper} {a : Act} {w : World} {K : Value → World → Prop} (g : Nat) (old row : Array Value) (t : TypeId) (hg : w.heap[g]? = some (.cells old t (0, 0))) (hr : (execOp a.eval o).run P w = .ok .skip (w.setRow g row))
    (h : ∀ W, W.heap[g]? = some (.cells row t (0, 0)) → (∀ k o, k ≠ g → w.heap[k]? = some o → W.heap[k]? = some o) → (∀ B v0, B ≤ g → Below B v0 w → Below B v0 W) → W.heap.size = w.heap.size → K undef W) : hOp P o K a w := by
  unfold hOp
  rw [hr]
  refine h _ ?_ (fun k o hk h0 => ?_) (fun B v0 hB hb => bel_setRow hb hB _) (by simp [World.setRow])
  · simp [World.setRow, Array.getElem?_modify, hg]
  · simp [World.setRow, Array.getElem?_modify, Ne.symm hk, h0]
end
end Go.Proofs.Ytkefijogpiofbaa.K
namespace Go.Proofs.Ytkefijogpiofbaa
set_option linter.unusedVariables false
set_option linter.unusedSimpArgs false
set_option linter.unusedSectionVars false
open Go.RowKit Go.Proofs.Ytkefijogpiofbaa.K
section
variable {P : Program} {ev : Operand → Value} {o : Oper} {w : World} {x y : Operand} {t : TypeId}
end
end Go.Proofs.Ytkefijogpiofbaa

namespace Go.Proofs.Ytkefijogpiofbaa
set_option linter.unusedVariables false
set_option linter.unusedSimpArgs false
set_option linter.unusedSectionVars false
set_option maxRecDepth 8000
open Go.RowKit Go.Proofs.Ytkefijogpiofbaa.K
attribute [local irreducible] wpList wpQuiet
theorem RowsU.grown {w w' : World} {t : TypeId} {base b0 : Nat} {bs : List Nat} {xss : List (List Nat)} {e : TypeId} {size n : Nat} {v : Value} {cs : List Value} (h : RowsU w t base bs xss) (ho : w.ownsRow b0 e size v n cs) (hg : w.grownBy w' v.ownBlock) (hne : t ≠ e) : RowsU w' t base bs xss :=
  ⟨h.len, h.ge, h.nd, fun i b xs hi hx => own_rowkeep ho hg (h.row i b xs hi hx) hne⟩
end Go.Proofs.Ytkefijogpiofbaa

namespace Go.Proofs.Ytkefijogpiofbaa
set_option linter.unusedVariables false
set_option linter.unusedSimpArgs false
set_option linter.unusedSectionVars false
set_option maxRecDepth 8000
open Go.RowKit Go.Proofs.Ytkefijogpiofbaa.K
attribute [local irreducible] wpList wpQuiet
/-- own slices of words, under heads -/
structure OwnsU (w : World) (t : TypeId) (base : Nat) (hs : List Hd) (xss : List (List Nat)) : Prop where
  len : hs.length = xss.length
  row : ∀ (i : Nat) (h : Hd) (xs : List Nat), hs[i]? = some h → xss[i]? = some xs → xs.length = h.n ∧ w.ownsRow base t 1 (.slice h.A h.n h.c) h.n (fl wdC xs)
theorem OwnsU.keep {w w' : World} {t : TypeId} {base : Nat} {hs : List Hd} {xss : List (List Nat)} (h : OwnsU w t base hs xss) (hb : Below w.heap.size w w') : OwnsU w' t base hs xss := ⟨h.len, fun i d xs hi hx => ⟨(h.row i d xs hi hx).1, own_keep (h.row i d xs hi hx).2 hb⟩⟩
theorem own_growT {w w' : World} {b1 b2 : Nat} {e1 e2 : TypeId} {s1 s2 n1 n2 : Nat} {v1 v2 : Value} {c1 c2 : List Value} (h : w.ownsRow b1 e1 s1 v1 n1 c1) (ho : w.ownsRow b2 e2 s2 v2 n2 c2) (hg : w.grownBy w' v2.ownBlock) (hne : e1 ≠ e2) : w'.ownsRow b1 e1 s1 v1 n1 c1 := by
  refine ⟨h.1, ?_⟩
  rcases h.2 with hn | ⟨g, cap, cur, rfl, hbs, hgg, rest⟩
  · exact .inl hn
  · exact .inr ⟨g, cap, cur, rfl, hbs, own_rowkeep ho hg hgg hne, rest⟩
theorem OwnsU.grown {w w' : World} {t : TypeId} {base b0 : Nat} {hs : List Hd} {xss : List (List Nat)} {e : TypeId} {size n : Nat} {v : Value} {cs : List Value} (h : OwnsU w t base hs xss) (ho : w.ownsRow b0 e size v n cs) (hg : w.grownBy w' v.ownBlock) (hne : t ≠ e) : OwnsU w' t base hs xss :=
  ⟨h.len, fun i d xs hi hx => ⟨(h.row i d xs hi hx).1, own_growT (h.row i d xs hi hx).2 ho hg hne⟩⟩
theorem OwnsU.nil {w : World} {t : TypeId} {base : Nat} : OwnsU w t base [] [] := ⟨rfl, fun i h xs hi => by simp at hi⟩
theorem OwnsU.sg {w : World} {t : TypeId} {base : Nat} {hs : List Hd} {xss : List (List Nat)} (h : OwnsU w t base hs xss) {i : Nat} {d : Hd} {xs : List Nat} (hi : hs[i]? = some d) (hx : xss[i]? = some xs) : Sg wdC 1 w d.A d.n d.c xs := Sg.ownS (h.row i d xs hi hx).2
end Go.Proofs.Ytkefijogpiofbaa

namespace Go.Proofs.Ytkefijogpiofbaa.K
set_option linter.unusedVariables false
set_option linter.unusedSimpArgs false
set_option linter.unusedSectionVars false
set_option maxRecDepth 8000
open Go.RowKit
section
variable {P : Program} {ev : Operand → Value} {o : Oper} {w : World} {x y z : Operand} {ty e : TypeId}
end
section
variable {α : Type} {E : α → List Value} {k : Nat} [hE : Enc E k] {w : World} {A : Option Addr} {n c : Nat} {xs : List α}
/-- a part of a slice, not empty -/
theorem Sg.cut {p q : Nat} (h : Sg E k w A n c xs) (hpq : p < q) (hq : q ≤ n) : Sg E k w (if c = p then A else A.map (·.add (p * k))) (q - p) (c - p) ((xs.drop p).take (q - p)) := by
  have hc := h.cap
  have ht := h.top
  rw [if_neg (by omega)]
  refine ⟨by rw [List.length_take, List.length_drop, h.len]; omega, by omega, by omega, fun e => ?_, fun i x hx => ?_⟩
  · cases A with
    | none => have := h.nil rfl; omega
    | some a => cases e
  · rw [List.getElem?_take] at hx
    split at hx
    · rw [List.getElem?_drop] at hx
      obtain ⟨g, off, rfl, hr⟩ := h.at_ _ _ hx
      refine ⟨g, off + p * k, by simp [Addr.add_mid], ?_⟩
      rw [Nat.add_mul, ← Nat.add_assoc] at hr
      exact hr
    · cases hx
end
end Go.Proofs.Ytkefijogpiofbaa.K
namespace Go.Proofs.Ytkefijogpiofbaa
set_option linter.unusedVariables false
set_option linter.unusedSimpArgs false
set_option linter.unusedSectionVars false
open Go.RowKit Go.Proofs.Ytkefijogpiofbaa.K
/-- heads that read as columns -/
def AllSg (w : World) : List Hd → List (List Nat) → Prop
  | [], [] => True
  | h :: hs, xs :: xss => Sg wdC 1 w h.A h.n h.c xs ∧ AllSg w hs xss
  | _, _ => False
theorem AllSg.len {w : World} : ∀ {hs : List Hd} {xss : List (List Nat)}, AllSg w hs xss → hs.length = xss.length
  | [], [], _ => rfl
  | _ :: hs, _ :: xss, h => by rw [List.length_cons, List.length_cons, AllSg.len (hs := hs) (xss := xss) h.2]
  | [], _ :: _, h => h.elim
  | _ :: _, [], h => h.elim
theorem AllSg.row {w : World} : ∀ {hs : List Hd} {xss : List (List Nat)}, AllSg w hs xss → ∀ (i : Nat) (h : Hd) (xs : List Nat), hs[i]? = some h → xss[i]? = some xs → Sg wdC 1 w h.A h.n h.c xs
  | [], _, _, i, h, xs, hi, _ => by simp at hi
  | _ :: _, [], h, _, _, _, _, _ => h.elim
  | _ :: hs, _ :: xss, h, 0, _, _, hi, hx => by
    simp only [List.getElem?_cons_zero, Option.some.injEq] at hi hx
    subst hi hx
    exact h.1
  | _ :: hs, _ :: xss, h, i + 1, d, xs, hi, hx => AllSg.row (hs := hs) (xss := xss) h.2 i d xs (by simpa using hi) (by simpa using hx)
theorem Cols.of {w : World} {A : Option Addr} {n c : Nat} {hs : List Hd} {xss : List (List Nat)} (h : Sg hdC 1 w A n c hs) (ha : AllSg w hs xss) : Cols w A n c hs xss := ⟨h, ha.len, ha.row⟩
theorem Cols.cut {w : World} {A : Option Addr} {n c p q : Nat} {hs : List Hd} {xss : List (List Nat)} (h : Cols w A n c hs xss) (hpq : p < q) (hq : q ≤ n) : Cols w (if c = p then A else A.map (·.add (p * 1))) (q - p) (c - p) ((hs.drop p).take (q - p)) ((xss.drop p).take (q - p)) :=
  ⟨h.head.cut hpq hq, by simp [h.len], fun i d xs hi hx => by
    rw [List.getElem?_take] at hi hx
    split at hi
    · next hlt =>
      rw [if_pos hlt] at hx
      rw [List.getElem?_drop] at hi hx
      exact h.row _ _ _ hi hx
    · cases hi⟩
end Go.Proofs.Ytkefijogpiofbaa

namespace Go.Proofs.Ytkefijogpiofbaa.K
set_option linter.unusedVariables false
set_option linter.unusedSimpArgs false
set_option linter.unusedSectionVars false
set_option maxRecDepth 8000
open Go.RowKit
section
variable {P : Program} {Q : Exit → Act → World → Prop} {ops : Array Oper} {S : World → Prop}
theorem wpAnyH_mono {S2 : World → Prop} (hS : ∀ w, S w → S2 w) : ∀ (n : Nat) (m : Array Bool) (a : Act) (w : World), wpAnyH P .any ops Q S n m a w → wpAnyH P .any ops Q S2 n m a w
  | 0, _, _, _, h => h
  | n + 1, _, _, _, h => ⟨h.1, fun i hi => wpOp_mono (fun a' w' h' => ⟨hS _ h'.1, wpAnyH_mono hS n _ a' w' h'.2⟩) (h.2 i hi)⟩
theorem OrdOK.drop {is : List Nat} : ∀ {pre done : List Nat}, OrdOK ops done (pre ++ is) → OrdOK ops (pre.reverse ++ done) is
  | [], _, h => h
  | p :: pre, done, h => by
    have h2 := OrdOK.drop (pre := pre) (OrdOK.tail h)
    rw [List.reverse_cons, List.append_assoc]
    exact h2
/-- a new slice -/
theorem hOp_mk {o : Oper} {a : Act} {w : World} {K : Value → World → Prop} (cs : Array Value) (t : TypeId) (n c : Nat) (hr : (execOp a.eval o).run P w = .ok (.value (.slice (some ⟨w.heap.size, 0, none⟩) n c)) (w.alloc (.cells cs t)))
    (h : ∀ b W, w.heap.size ≤ b → W.heap[b]? = some (.cells cs t (0, 0)) → Below w.heap.size w W → K (.slice (some ⟨b, 0, none⟩) n c) W) : hOp P o K a w := by
  unfold hOp
  rw [hr]
  exact h _ _ (Nat.le_refl _) (heap_new w _) ((Below.refl _ _).alloc (Nat.le_refl _) _)
end
end Go.Proofs.Ytkefijogpiofbaa.K

namespace Go.Proofs.Ytkefijogpiofbaa.K
set_option linter.unusedVariables false
set_option linter.unusedSimpArgs false
set_option linter.unusedSectionVars false
set_option maxRecDepth 8000
open Go.RowKit
section
variable {P : Program} {ops : Array Oper} {Q : Exit → Act → World → Prop}
def wpX (P : Program) (ops : Array Oper) (Q : Exit → Act → World → Prop) : OT → Act → World → Prop
  | .nil, a, w => Q .normal a w
  | .q i t, a, w => ∃ o, ops[i]? = some o ∧ ∃ v, YieldsIf P ops (fun W => Below w.heap.size w W) o v a ∧ wpX P ops Q t (a.put o.dst v) w
  | .one i t, a, w => ∃ o, ops[i]? = some o ∧ Region.wanted o (yielded ops a.tmps) = true ∧ hOp P o (fun v w' => Below w.heap.size w w' ∧ wpX P ops Q t (a.put o.dst v) w') a w
  | .fork i t j u, a, w => (∃ o, ops[i]? = some o ∧ Region.wanted o (yielded ops a.tmps) = true ∧ hOp P o (fun v w' => Below w.heap.size w w' ∧ wpX P ops Q t (a.put o.dst v) w') a w) ∧
      (∃ o, ops[j]? = some o ∧ Region.wanted o (yielded ops a.tmps) = true ∧ hOp P o (fun v w' => Below w.heap.size w w' ∧ wpX P ops Q u (a.put o.dst v) w') a w)
theorem wpAnyH_of_wpX (hs : Region.noSelect ops = true) (hQ : ∀ c a (dt : Option Tmp) v w, Q (.panic c) (Act.put a dt v) w → Q (.panic c) a w) : ∀ (t : OT) (m : Array Bool) (a : Act) (w : World), okT ops t m = true → wpX P ops Q t a w → wpAnyH P .any ops Q (fun W => Below w.heap.size w W) t.len m a w
  | .nil, m, a, w, ho, h => wpAnyH_done (by unfold okT at ho; simpa using ho) h _
  | .q i t, m, a, w, ho, h => by
    unfold okT at ho
    rw [Bool.and_eq_true, Bool.and_eq_true] at ho
    obtain ⟨o, hi, v, hy, hk⟩ := h
    exact wpAnyH_take hi hs ho.1.1 ho.1.2 (fun c a w h => hQ c a _ _ w h) hy (Below.refl _ _) (wpAnyH_of_wpX hs hQ t _ _ w ho.2 hk)
  | .one i t, m, a, w, ho, h => by
    unfold okT at ho
    rw [Bool.and_eq_true] at ho
    obtain ⟨o, hi, hw, hk⟩ := h
    refine wpAnyH_all (rs := [i]) (by simpa using ho.1) (by simp) ?_
    intro j hj
    obtain rfl : j = i := by simpa using hj
    exact wpOp_of_hOp hi hw (hOp_mono (fun v w' hk => ⟨hk.1, wpAnyH_mono (S := fun W => Below w'.heap.size w' W) (fun W (hW : Below w'.heap.size w' W) => hk.1.trans (hW.mono hk.1.size)) _ _ _ _ (wpAnyH_of_wpX hs hQ t _ _ w' ho.2 hk.2)⟩) hk)
  | .fork i t j u, m, a, w, ho, h => by
    unfold okT at ho
    rw [Bool.and_eq_true, Bool.and_eq_true, Bool.and_eq_true] at ho
    obtain ⟨⟨⟨h1, h2⟩, h3⟩, h4⟩ := ho
    have h2 : t.len = u.len := by simpa using h2
    obtain ⟨⟨o, hi, hw, hk⟩, ⟨o2, hi2, hw2, hk2⟩⟩ := h
    refine wpAnyH_all (rs := [i, j]) (by simpa using h1) (by simp) ?_
    intro q hq
    rcases List.mem_cons.1 hq with rfl | hq
    · exact wpOp_of_hOp hi hw (hOp_mono (fun v w' hk => ⟨hk.1, wpAnyH_mono (S := fun W => Below w'.heap.size w' W) (fun W (hW : Below w'.heap.size w' W) => hk.1.trans (hW.mono hk.1.size)) _ _ _ _ (wpAnyH_of_wpX hs hQ t _ _ w' h3 hk.2)⟩) hk)
    · obtain rfl : q = j := by simpa using hq
      exact wpOp_of_hOp hi2 hw2 (hOp_mono (fun v w' hk => ⟨hk.1, wpAnyH_mono (S := fun W => Below w'.heap.size w' W) (fun W (hW : Below w'.heap.size w' W) => hk.1.trans (hW.mono hk.1.size)) _ _ _ _ (by have := wpAnyH_of_wpX hs hQ u _ _ w' h4 hk.2; rw [← h2] at this; exact this)⟩) hk2)
theorem wp_ordX (t : OT) {id : Nat} {a : Act} {w : World} {l : List Oper} (hm : P.follows .mixedOrders = true) (hs : Region.noSelect l.toArray = true) (hQ : ∀ c a (dt : Option Tmp) v w, Q (.panic c) (Act.put a dt v) w → Q (.panic c) a w)
    (hn : t.len = l.length) (ho : okT l.toArray t (Array.replicate l.length false) = true) (h : ∀ V, Below w.heap.size w V → wpX P l.toArray Q t a V) : (Code.region id l.toArray true).wp P Q a w := by
  refine wp_region_held (S := fun W => Below w.drew.heap.size w.drew W) hm ?_
  have := wpAnyH_of_wpX hs hQ t _ a w.drew ho (h _ (Below.refl _ _).drew)
  rw [hn] at this
  simpa using this
theorem wpX_nil {a : Act} {w : World} (h : Q .normal a w) : wpX P ops Q .nil a w := h
theorem wpX_q {i : Nat} {t : OT} {o : Oper} {l : List Oper} {a : Act} {w : World} (v : Value) (hi : l[i]? = some o) (hw : Region.wanted o (yielded l.toArray a.tmps) = true) (hr : ∀ w', Below w.heap.size w w' → (execOp a.eval o).run P w' = .ok (.value v) w') (h : wpX P l.toArray Q t (a.put o.dst v) w) : wpX P l.toArray Q (.q i t) a w :=
  ⟨o, by simpa using hi, v, .inl ⟨hw, hr⟩, h⟩
theorem wpX_one {i : Nat} {t : OT} {o : Oper} {l : List Oper} {a : Act} {w : World} (hi : l[i]? = some o) (hw : Region.wanted o (yielded l.toArray a.tmps) = true) (h : hOp P o (fun v w' => Below w.heap.size w w' ∧ wpX P l.toArray Q t (a.put o.dst v) w') a w) : wpX P l.toArray Q (.one i t) a w :=
  ⟨o, by simpa using hi, hw, h⟩
theorem wpX_fork {i j : Nat} {t u : OT} {a : Act} {w : World} (h1 : wpX P ops Q (.one i t) a w) (h2 : wpX P ops Q (.one j u) a w) : wpX P ops Q (.fork i t j u) a w := ⟨h1, h2⟩
end
end Go.Proofs.Ytkefijogpiofbaa.K

namespace Gold
set_option linter.unusedVariables false
set_option linter.unusedSimpArgs false
set_option linter.unusedSectionVars false
set_option maxRecDepth 8000

def ch : Nat → Nat → Nat
  | _, 0 => 1
  | 0, _ + 1 => 0
  | n + 1, k + 1 => ch n k + ch n (k + 1)

theorem ch_zero (n : Nat) : ch n 0 = 1 := by cases n <;> rfl
theorem ch_succ (n k : Nat) : ch (n + 1) (k + 1) = ch n k + ch n (k + 1) := rfl

theorem ch_above : ∀ (n k : Nat), n < k → ch n k = 0
  | 0, k + 1, _ => rfl
  | n + 1, k + 1, h => by rw [ch_succ, ch_above n k (by omega), ch_above n (k + 1) (by omega)]

theorem ch_self : ∀ n : Nat, ch n n = 1
  | 0 => rfl
  | n + 1 => by rw [ch_succ, ch_self n, ch_above n (n + 1) (by omega)]

theorem ch_mul : ∀ (n k : Nat), (k + 1) * ch (n + 1) (k + 1) = (n + 1) * ch n k
  | 0, 0 => rfl
  | 0, k + 1 => by simp [ch]
  | n + 1, 0 => by
    have h := ch_mul n 0
    rw [ch_succ (n + 1) 0, ch_zero, Nat.mul_add, h, ch_zero]
    omega
  | n + 1, k + 1 => by
    have h1 := ch_mul n k
    have h2 := ch_mul n (k + 1)
    rw [ch_succ (n + 1) (k + 1), Nat.mul_add, h2]
    have h3 : (k + 1 + 1) * ch (n + 1) (k + 1) = (k + 1) * ch (n + 1) (k + 1) + ch (n + 1) (k + 1) := by
      rw [Nat.add_mul (k + 1) 1, Nat.one_mul]
    rw [h3, h1, ch_succ n k]
    simp only [Nat.mul_add, Nat.add_mul, Nat.one_mul]
    omega

def bin (n a : Nat) : Nat → Nat
  | 0 => 0
  | k + 1 => bin n a k + ch n k * a ^ k

theorem bin_one (n a : Nat) : bin n a 1 = 1 := by simp [bin, ch_zero]

theorem bin_succ (n a : Nat) : ∀ k : Nat, bin (n + 1) a (k + 1) = bin n a (k + 1) + a * bin n a k
  | 0 => by simp [bin, ch_zero]
  | k + 1 => by
    have h := bin_succ n a k
    show bin (n + 1) a (k + 1) + ch (n + 1) (k + 1) * a ^ (k + 1) = bin n a (k + 1) + ch n (k + 1) * a ^ (k + 1) + a * (bin n a k + ch n k * a ^ k)
    rw [h, ch_succ, Nat.add_mul, Nat.mul_add, Nat.pow_succ]
    have e : ch n k * (a ^ k * a) = a * (ch n k * a ^ k) := by
      rw [Nat.mul_comm (a ^ k) a, ← Nat.mul_assoc, Nat.mul_comm (ch n k) a, Nat.mul_assoc]
    rw [e]
    omega

theorem bin_full (n a : Nat) : bin n a (n + 1) = (a + 1) ^ n := by
  induction n with
  | zero => simp [bin, ch_zero]
  | succ n ih =>
    have e : bin n a (n + 1 + 1) = bin n a (n + 1) := by
      show bin n a (n + 1) + ch n (n + 1) * a ^ (n + 1) = _
      rw [ch_above n (n + 1) (by omega)]; simp
    rw [bin_succ, e, ih, Nat.pow_succ, Nat.mul_add, Nat.mul_one, Nat.mul_comm a]
    omega

/-- a prime number: greater than one, and its divisors are one and itself -/
def Pr (q : Nat) : Prop := 1 < q ∧ ∀ d, d ∣ q → d = 1 ∨ d = q

theorem Pr.coprime {q a : Nat} (h : Pr q) (ha : ¬ q ∣ a) : Nat.Coprime q a := by
  have hd := h.2 (Nat.gcd q a) (Nat.gcd_dvd_left q a)
  rcases hd with hd | hd
  · exact hd
  · exact absurd (hd ▸ Nat.gcd_dvd_right q a) ha

theorem Pr.dvd_mul {q a b : Nat} (h : Pr q) (hab : q ∣ a * b) : q ∣ a ∨ q ∣ b := by
  by_cases ha : q ∣ a
  · exact Or.inl ha
  · exact Or.inr ((h.coprime ha).dvd_of_dvd_mul_left hab)

theorem Pr.dvd_ch {q k : Nat} (h : Pr q) (h0 : 0 < k) (hk : k < q) : q ∣ ch q k := by
  obtain ⟨n, rfl⟩ : ∃ n, q = n + 1 := ⟨q - 1, by omega⟩
  obtain ⟨j, rfl⟩ : ∃ j, k = j + 1 := ⟨k - 1, by omega⟩
  have e := ch_mul n j
  have hd : (n + 1) ∣ (j + 1) * ch (n + 1) (j + 1) := e ▸ Nat.dvd_mul_right _ _
  rcases h.dvd_mul hd with hd | hd
  · have := Nat.le_of_dvd (by omega) hd
    omega
  · exact hd

theorem Pr.bin_mod {q : Nat} (h : Pr q) (a : Nat) : ∀ k, k < q → bin q a (k + 1) % q = 1
  | 0, _ => by rw [bin_one]; exact Nat.mod_eq_of_lt h.1
  | k + 1, hk => by
    have ih := h.bin_mod a k (by omega)
    show (bin q a (k + 1) + ch q (k + 1) * a ^ (k + 1)) % q = 1
    obtain ⟨c, hc⟩ := h.dvd_ch (k := k + 1) (by omega) hk
    rw [hc, Nat.mul_assoc, Nat.add_mul_mod_self_left, ih]

theorem Pr.fermat {q : Nat} (h : Pr q) (a : Nat) : a ^ q % q = a % q := by
  induction a with
  | zero =>
    rw [Nat.zero_pow (by have := h.1; omega)]
  | succ a ih =>
    have hb : bin q a (q - 1 + 1) % q = 1 := h.bin_mod a (q - 1) (by have := h.1; omega)
    have hq : q - 1 + 1 = q := by have := h.1; omega
    rw [hq] at hb
    have e : bin q a (q + 1) = bin q a q + ch q q * a ^ q := rfl
    rw [← bin_full, e, ch_self, Nat.one_mul, Nat.add_mod, hb, ih, ← Nat.add_mod_mod]
    rw [Nat.add_comm a 1]
    simp

theorem Pr.cancel {q a x y : Nat} (h : Pr q) (ha : ¬ q ∣ a) (e : a * x % q = a * y % q) : x % q = y % q := by
  have key : ∀ x y : Nat, x ≤ y → a * x % q = a * y % q → x % q = y % q := by
    intro x y hxy e
    have hd : q ∣ a * (y - x) := by
      rw [Nat.mul_sub]
      exact Nat.dvd_of_mod_eq_zero (Nat.sub_mod_eq_zero_of_mod_eq e.symm)
    rcases h.dvd_mul hd with hd | ⟨c, hc⟩
    · exact absurd hd ha
    · have : y = x + q * c := by omega
      rw [this, Nat.add_mul_mod_self_left]
  rcases Nat.le_total x y with hxy | hxy
  · exact key x y hxy e
  · exact (key y x hxy e.symm).symm

theorem Pr.fermat_one {q a : Nat} (h : Pr q) (ha : ¬ q ∣ a) : a ^ (q - 1) % q = 1 := by
  have e := h.fermat a
  have hq : q - 1 + 1 = q := by have := h.1; omega
  have e2 : a * a ^ (q - 1) % q = a * 1 % q := by
    rw [Nat.mul_comm, ← Nat.pow_succ, Nat.succ_eq_add_one, hq, e, Nat.mul_one]
  rw [h.cancel ha e2, Nat.mod_eq_of_lt h.1]

theorem prime_divisor : ∀ (n m : Nat), m ≤ n → 1 < m → ∃ q, Pr q ∧ q ∣ m
  | 0, m, h, h1 => by omega
  | n + 1, m, h, h1 => by
    by_cases hp : Pr m
    · exact ⟨m, hp, Nat.dvd_refl m⟩
    · have : ∃ d, d ∣ m ∧ d ≠ 1 ∧ d ≠ m := by
        apply Classical.byContradiction
        intro hn
        refine hp ⟨h1, fun d hd => ?_⟩
        by_cases h1 : d = 1
        · exact Or.inl h1
        · by_cases h2 : d = m
          · exact Or.inr h2
          · exact absurd ⟨d, hd, h1, h2⟩ hn
      obtain ⟨d, hd, hd1, hdm⟩ := this
      have hle := Nat.le_of_dvd (by omega) hd
      have h0 : d ≠ 0 := by
        rintro rfl
        have := Nat.eq_zero_of_zero_dvd hd
        omega
      obtain ⟨q, hq, hqd⟩ := prime_divisor n d (by omega) (by omega)
      exact ⟨q, hq, Nat.dvd_trans hqd hd⟩

/-- a number is a power of two times an odd number -/
theorem two_part : ∀ (n e : Nat), e ≤ n → 0 < e → ∃ t o, e = 2 ^ t * o ∧ o % 2 = 1
  | 0, e, h, h0 => by omega
  | n + 1, e, h, h0 => by
    by_cases h2 : e % 2 = 1
    · exact ⟨0, e, by simp, h2⟩
    · obtain ⟨t, o, ht, ho⟩ := two_part n (e / 2) (by omega) (by omega)
      refine ⟨t + 1, o, ?_, ho⟩
      rw [Nat.pow_succ, Nat.mul_comm (2 ^ t) 2, Nat.mul_assoc, ← ht]
      omega

theorem odd_pow {d x : Nat} (h : d ∣ x + 1) : ∀ k : Nat, d ∣ x ^ (2 * k + 1) + 1
  | 0 => by simpa using h
  | k + 1 => by
    obtain ⟨c, hc⟩ := odd_pow h k
    obtain ⟨b, hb⟩ := h
    -- x^(2k+3) + 1 = x^2 (x^(2k+1) + 1) - (x^2 - 1), in the integers
    have e : x ^ (2 * (k + 1) + 1) = x ^ (2 * k + 1) * x * x := by
      rw [show 2 * (k + 1) + 1 = 2 * k + 1 + 1 + 1 by omega, Nat.pow_succ, Nat.pow_succ]
    rw [e]
    have i1 : ((x ^ (2 * k + 1) : Nat) : Int) = d * c - 1 := by
      have := congrArg (Nat.cast : Nat → Int) hc
      simp only [Int.natCast_add, Int.natCast_mul, Int.natCast_one] at this ⊢
      omega
    have i2 : (x : Int) = d * b - 1 := by
      have := congrArg (Nat.cast : Nat → Int) hb
      simp only [Int.natCast_add, Int.natCast_mul, Int.natCast_one] at this ⊢
      omega
    refine Int.natCast_dvd_natCast.mp ?_
    rw [Int.natCast_add, Int.natCast_mul, Int.natCast_mul, i1, i2, Int.natCast_one]
    refine ⟨c * (d * b - 1) * (d * b - 1) - (d * b * b - 2 * b), ?_⟩
    simp only [Int.mul_sub, Int.sub_mul, Int.mul_one, Int.one_mul]
    have c1 : (d : Int) * c * (d * b) * (d * b) = d * (c * (d * b) * (d * b)) := by
      simp only [Int.mul_assoc]
    have c2 : (d : Int) * c * (d * b) = d * (c * (d * b)) := by simp only [Int.mul_assoc]
    have c3 : (d : Int) * b * (d * b) = d * (d * b * b) := by
      simp only [Int.mul_assoc, Int.mul_left_comm]
    have c4 : (d : Int) * (2 * b) = d * b + d * b := by
      rw [Int.two_mul, Int.mul_add]
    rw [c1, c2, c3, c4]
    omega

/-- a prime that divides x + 1 for x = g^(2^m) is greater than 2^(m+1) -/
theorem Pr.large {q g m : Nat} (h : Pr q) (h2 : 2 < q) (hg : q ∣ g ^ (2 ^ m) + 1) : 2 ^ (m + 1) < q := by
  have hng : ¬ q ∣ g := by
    intro hd
    have h1 : q ∣ g ^ (2 ^ m) := by
      have hp : 0 < 2 ^ m := Nat.two_pow_pos m
      obtain ⟨k, hk⟩ : ∃ k, 2 ^ m = k + 1 := ⟨2 ^ m - 1, by omega⟩
      rw [hk, Nat.pow_succ]
      exact Nat.dvd_trans hd (Nat.dvd_mul_left _ _)
    have := (Nat.dvd_add_right h1).mp hg
    have := Nat.le_of_dvd (by omega) this
    omega
  have hf := h.fermat_one hng
  obtain ⟨t, o, hto, ho⟩ := two_part (q - 1) (q - 1) (Nat.le_refl _) (by omega)
  by_cases htm : m + 1 ≤ t
  · have hle : 2 ^ (m + 1) ≤ 2 ^ t := Nat.pow_le_pow_right (by omega) htm
    have : 2 ^ t * 1 ≤ 2 ^ t * o := Nat.mul_le_mul_left _ (by omega)
    omega
  · exfalso
    -- g^(2^t o) = 1, so g^(2^m o) = 1; but g^(2^m) = -1 and o is odd
    obtain ⟨j, hj⟩ : ∃ j, m = t + j := ⟨m - t, by omega⟩
    obtain ⟨k, hk⟩ : ∃ k, o = 2 * k + 1 := ⟨o / 2, by omega⟩
    have hodd := odd_pow hg k
    rw [← hk, ← Nat.pow_mul] at hodd
    have e : 2 ^ m * o = (q - 1) * 2 ^ j := by
      rw [hto, hj, Nat.pow_add, Nat.mul_assoc, Nat.mul_assoc, Nat.mul_comm (2 ^ j) o]
    rw [e, Nat.pow_mul] at hodd
    have h1 : (g ^ (q - 1)) ^ (2 ^ j) % q = 1 := by
      rw [Nat.pow_mod, hf, Nat.one_pow, Nat.mod_eq_of_lt h.1]
    have h3 := Nat.mod_eq_zero_of_dvd hodd
    rw [Nat.add_mod, h1, Nat.mod_eq_of_lt (show 1 < q by omega), Nat.mod_eq_of_lt (show 1 + 1 < q by omega)] at h3
    omega

/-- the order of the field -/
def P : Nat := 18446744069414584321

/-- a to the power of n modulo P, for n below 2^fuel, by squaring: the kernel reckons it -/
def pm : Nat → Nat → Nat → Nat
  | 0, _, _ => 1
  | f + 1, a, n => if n % 2 = 1 then a * pm f (a * a % P) (n / 2) % P else pm f (a * a % P) (n / 2)

theorem pm_eq : ∀ (f a n : Nat), n < 2 ^ f → pm f a n % P = a ^ n % P
  | 0, a, n, h => by
    obtain rfl : n = 0 := by simpa using h
    rfl
  | f + 1, a, n, h => by
    have ih := pm_eq f (a * a % P) (n / 2) (by rw [Nat.pow_succ] at h; omega)
    have e : (a * a % P) ^ (n / 2) % P = a ^ (2 * (n / 2)) % P := by
      rw [← Nat.pow_mod, Nat.pow_mul]
      congr 2
      exact (Nat.pow_two a).symm
    rw [e] at ih
    unfold pm
    split
    · have : n = 2 * (n / 2) + 1 := by omega
      rw [Nat.mod_mod, Nat.mul_mod, ih, ← Nat.mul_mod]
      conv => rhs; rw [this, Nat.pow_succ, Nat.mul_comm]
    · have : n = 2 * (n / 2) := by omega
      rw [ih, ← this]

theorem minus_one : pm 64 7 9223372034707292160 = 18446744069414584320 := by decide +kernel

theorem minus_one_dvd : ∃ g m : Nat, m = 31 ∧ P ∣ g ^ (2 ^ m) + 1 := by
  obtain ⟨m, hm⟩ : ∃ m : Nat, m = 31 := ⟨_, rfl⟩
  obtain ⟨n, hn⟩ : ∃ n : Nat, n = 4294967295 := ⟨_, rfl⟩
  refine ⟨7 ^ n, m, hm, ?_⟩
  have h := pm_eq 64 7 9223372034707292160 (by decide)
  have e : n * 2 ^ m = 9223372034707292160 := by subst hm; subst hn; decide
  rw [← e] at h
  rw [← Nat.pow_mul]
  have h1 : 7 ^ (n * 2 ^ m) % P = 18446744069414584320 := by
    rw [← h, e, minus_one]
    rfl
  apply Nat.dvd_of_mod_eq_zero
  rw [Nat.add_mod, h1]
  rfl

theorem P_divisor_large {d : Nat} (hd : d ∣ P) (h1 : 1 < d) : 4294967296 < d := by
  obtain ⟨q, hq, hqd⟩ := prime_divisor d d (Nat.le_refl _) h1
  have hqP := Nat.dvd_trans hqd hd
  have h2 : 2 < q := by
    have := hq.1
    by_cases e : q = 2
    · rw [e] at hqP
      exact absurd hqP (by decide)
    · omega
  obtain ⟨g, m, hm, hg⟩ := minus_one_dvd
  have hl := hq.large h2 (Nat.dvd_trans hqP hg)
  have := Nat.le_of_dvd (by omega) hqd
  have e : 2 ^ (m + 1) = 4294967296 := by subst hm; decide
  omega

theorem P_prime : Pr P := by
  refine ⟨by decide, fun d hd => ?_⟩
  obtain ⟨c, hc⟩ := id hd
  by_cases h1 : d = 1
  · exact Or.inl h1
  · by_cases h2 : c = 1
    · right; rw [hc, h2, Nat.mul_one]
    · exfalso
      have hP : P = 18446744069414584321 := rfl
      have d0 : d ≠ 0 := by rintro rfl; rw [Nat.zero_mul] at hc; omega
      have c0 : c ≠ 0 := by rintro rfl; rw [Nat.mul_zero] at hc; omega
      have hd' := P_divisor_large hd (by omega)
      have hc' := P_divisor_large (hc ▸ Nat.dvd_mul_left c d : c ∣ P) (by omega)
      have hm : 4294967297 * 4294967297 ≤ d * c := Nat.mul_le_mul (by omega) (by omega)
      rw [← hc, hP] at hm
      exact absurd hm (by decide)

end Gold

namespace Gold
set_option linter.unusedVariables false
set_option linter.unusedSimpArgs false
set_option linter.unusedSectionVars false
set_option maxRecDepth 8000

/-- the order, as an integer -/
def Q : Int := 18446744069414584321
def El (a : Int) : Prop := 0 ≤ a ∧ a < 18446744069414584321
def U64 (a : Int) : Prop := 0 ≤ a ∧ a < 18446744073709551616

def fred (a : Int) : Int := a % 18446744069414584321
def fadd (a b : Int) : Int := (a + b) % 18446744069414584321
def fsub (a b : Int) : Int := (a - b) % 18446744069414584321
def fneg (a : Int) : Int := (-a) % 18446744069414584321
def fmul (a b : Int) : Int := (a * b) % 18446744069414584321
def fpow (a n : Int) : Int := (a ^ n.toNat) % 18446744069414584321

theorem El_fred (a : Int) : El (fred a) := by unfold El fred; omega
theorem El_fsub (a b : Int) : El (fsub a b) := by unfold El fsub; omega
theorem El_fneg (a : Int) : El (fneg a) := by unfold El fneg; omega
theorem El_fmul (a b : Int) : El (fmul a b) := by unfold El fmul; omega
theorem El_fpow (a n : Int) : El (fpow a n) := by unfold El fpow; omega
theorem El.u64 {a : Int} (h : El a) : U64 a := by unfold El U64 at *; omega
theorem El.mod {a : Int} (h : El a) : a % 18446744069414584321 = a := by unfold El at h; exact Int.emod_eq_of_lt h.1 h.2

/-- the upper word of a product, out of products of half words -/
theorem high_parts (a b : Int) (ha : U64 a) (hb : U64 b) (x y z v : Int) (hx : x = a / 4294967296 * (b / 4294967296)) (hy : y = a / 4294967296 * (b % 4294967296))
    (hz : z = a % 4294967296 * (b / 4294967296)) (hv : v = a % 4294967296 * (b % 4294967296)) :
    a * b = x * 18446744073709551616 + (y + z) * 4294967296 + v ∧ (0 ≤ x ∧ x ≤ 18446744065119617025) ∧ (0 ≤ y ∧ y ≤ 18446744065119617025) ∧ (0 ≤ z ∧ z ≤ 18446744065119617025) ∧ (0 ≤ v ∧ v ≤ 18446744065119617025) := by
  unfold U64 at ha hb
  have bound : ∀ p q : Int, 0 ≤ p → p ≤ 4294967295 → 0 ≤ q → q ≤ 4294967295 → 0 ≤ p * q ∧ p * q ≤ 18446744065119617025 := by
    intro p q hp0 hp hq0 hq
    refine ⟨Int.mul_nonneg hp0 hq0, ?_⟩
    have := Int.mul_le_mul hp hq hq0 (by decide : (0 : Int) ≤ 4294967295)
    exact Int.le_trans this (by decide)
  refine ⟨?_, hx ▸ bound _ _ (by omega) (by omega) (by omega) (by omega), hy ▸ bound _ _ (by omega) (by omega) (by omega) (by omega), hz ▸ bound _ _ (by omega) (by omega) (by omega) (by omega), hv ▸ bound _ _ (by omega) (by omega) (by omega) (by omega)⟩
  have ea : a = a / 4294967296 * 4294967296 + a % 4294967296 := by omega
  have eb : b = b / 4294967296 * 4294967296 + b % 4294967296 := by omega
  generalize a / 4294967296 = a1 at *
  generalize a % 4294967296 = a0 at *
  generalize b / 4294967296 = b1 at *
  generalize b % 4294967296 = b0 at *
  subst ea eb hx hy hz hv
  have e1 : (a1 * 4294967296 + a0) * (b1 * 4294967296 + b0) = a1 * 4294967296 * (b1 * 4294967296) + a1 * 4294967296 * b0 + (a0 * (b1 * 4294967296) + a0 * b0) := by
    rw [Int.mul_add, Int.add_mul, Int.add_mul]; omega
  have e2 : a1 * 4294967296 * (b1 * 4294967296) = a1 * b1 * 18446744073709551616 := by
    rw [Int.mul_assoc, Int.mul_comm 4294967296 (b1 * 4294967296), Int.mul_assoc b1, ← Int.mul_assoc a1]; rfl
  have e3 : a1 * 4294967296 * b0 = a1 * b0 * 4294967296 := by rw [Int.mul_assoc, Int.mul_comm 4294967296 b0, ← Int.mul_assoc]
  have e4 : a0 * (b1 * 4294967296) = a0 * b1 * 4294967296 := by rw [← Int.mul_assoc]
  rw [e1, e2, e3, e4]
  omega

/-- hi * 2^64 + lo modulo the order: 2^96 is -1, 2^64 is 2^32 - 1 -/
theorem wide_mod (a b : Int) : (a * 18446744073709551616 + b) % 18446744069414584321 = (b - a / 4294967296 + a % 4294967296 * 4294967295) % 18446744069414584321 := by
  have e : a * 18446744073709551616 + b = (b - a / 4294967296 + a % 4294967296 * 4294967295) + (a / 4294967296 * 4294967297 + a % 4294967296) * 18446744069414584321 := by omega
  rw [e, Int.add_mul_emod_self_right]

/-- what a round of squaring keeps: r times the k-th power of b -/
def Pw (b : Int) (k : Nat) (r : Int) : Int := (r * b ^ k) % 18446744069414584321

theorem mulmod_left (a b : Int) : (a % 18446744069414584321 * b) % 18446744069414584321 = (a * b) % 18446744069414584321 := by
  rw [Int.mul_emod, Int.emod_emod_of_dvd _ (Int.dvd_refl _), ← Int.mul_emod]

theorem powmod (b : Int) (j : Nat) : (b % 18446744069414584321) ^ j % 18446744069414584321 = b ^ j % 18446744069414584321 := by
  induction j with
  | zero => simp
  | succ j ih =>
    rw [Int.pow_succ, Int.mul_emod, ih, ← Int.mul_emod, Int.pow_succ, Int.mul_comm, mulmod_left, Int.mul_comm]

theorem mulpowmod (r b : Int) (j : Nat) : (r * (b % 18446744069414584321) ^ j) % 18446744069414584321 = (r * b ^ j) % 18446744069414584321 := by
  rw [Int.mul_emod, powmod, ← Int.mul_emod]

theorem sq_pow (b : Int) (j : Nat) : (b * b) ^ j = b ^ (2 * j) := by
  rw [Int.pow_mul]
  congr 1
  rw [Int.pow_succ, Int.pow_succ]; simp

theorem Pw_odd (b r : Int) (k : Nat) (h : k % 2 = 1) : Pw (fmul b b) (k / 2) (fmul r b) = Pw b k r := by
  unfold Pw fmul
  rw [mulpowmod, mulmod_left, sq_pow, Int.mul_assoc]
  congr 2
  have : k = 2 * (k / 2) + 1 := by omega
  conv => rhs; rw [this, Int.pow_succ, Int.mul_comm]

theorem Pw_even (b r : Int) (k : Nat) (h : k % 2 = 0) : Pw (fmul b b) (k / 2) r = Pw b k r := by
  unfold Pw fmul
  rw [mulpowmod, sq_pow]
  congr 3
  omega

theorem Pw_zero (b r : Int) (h : El r) : Pw b 0 r = r := by
  unfold Pw
  rw [Int.pow_zero, Int.mul_one]
  exact h.mod

theorem Pw_one (a : Int) (n : Nat) : Pw a n 1 = fpow a n := by
  unfold Pw fpow
  rw [Int.one_mul]
  rfl

theorem El_one : El 1 := by unfold El; omega


/-- what Euclid's algorithm keeps: the last two remainders are these factors times a, and have no common divisor -/
def Euc (a l r g f : Int) : Prop := 1 < l ∧ 0 ≤ r ∧ r < l ∧ l ≤ 18446744069414584321 ∧ El g ∧ El f ∧ (g * a - l) % 18446744069414584321 = 0 ∧ (f * a - r) % 18446744069414584321 = 0 ∧ Int.gcd l r = 1

theorem Euc.start {a : Int} (ha : El a) (h0 : a ≠ 0) : Euc a 18446744069414584321 a 0 1 := by
  unfold El at ha
  refine ⟨by omega, ha.1, ha.2, by omega, by unfold El; omega, by unfold El; omega, by rw [Int.zero_mul]; omega, by rw [Int.one_mul]; omega, ?_⟩
  have hn : ¬ P ∣ a.toNat := by
    intro hd
    have := Nat.le_of_dvd (by omega) hd
    have : P = 18446744069414584321 := rfl
    omega
  have hc := P_prime.coprime hn
  have e : a.natAbs = a.toNat := by omega
  have e2 : Int.natAbs 18446744069414584321 = P := by unfold P; omega
  unfold Int.gcd
  rw [e, e2]
  exact hc

theorem Euc.step {a l r g f : Int} (h : Euc a l r g f) (hr : 2 ≤ r) : Euc a r (l - l / r * r) f (fsub g (fmul (l / r) f)) := by
  obtain ⟨h1, h2, h3, h4, hg, hf, hl, hr', hgcd⟩ := h
  have e : l - l / r * r = l % r := by rw [Int.emod_def, Int.mul_comm]
  rw [e]
  refine ⟨by omega, Int.emod_nonneg _ (by omega), Int.emod_lt_of_pos _ (by omega), by omega, hf, El_fsub _ _, hr', ?_, ?_⟩
  · rw [Int.emod_def l r, Int.mul_comm r]
    generalize l / r = q
    unfold fsub fmul
    obtain ⟨c, hc⟩ := Int.dvd_of_emod_eq_zero hl
    obtain ⟨d, hd⟩ := Int.dvd_of_emod_eq_zero hr'
    have e1 : q * f % 18446744069414584321 = q * f - 18446744069414584321 * (q * f / 18446744069414584321) := Int.emod_def _ _
    have e2 : (g - q * f % 18446744069414584321) % 18446744069414584321 = (g - q * f % 18446744069414584321) - 18446744069414584321 * ((g - q * f % 18446744069414584321) / 18446744069414584321) := Int.emod_def _ _
    rw [e2]
    generalize (g - q * f % 18446744069414584321) / 18446744069414584321 = v
    rw [e1]
    generalize q * f / 18446744069414584321 = u
    apply Int.emod_eq_zero_of_dvd
    refine ⟨c - q * d + u * a - v * a, ?_⟩
    have k1 : (g - (q * f - 18446744069414584321 * u) - 18446744069414584321 * v) * a = g * a - q * (f * a) + 18446744069414584321 * (u * a) - 18446744069414584321 * (v * a) := by
      rw [Int.sub_mul, Int.sub_mul, Int.sub_mul, Int.mul_assoc, Int.mul_assoc, Int.mul_assoc]; omega
    rw [k1]
    have k2 : f * a = r + 18446744069414584321 * d := by omega
    have k3 : g * a = l + 18446744069414584321 * c := by omega
    have k4 : q * (18446744069414584321 * d) = 18446744069414584321 * (q * d) := by rw [← Int.mul_assoc, Int.mul_comm q, Int.mul_assoc]
    rw [k2, k3, Int.mul_add, k4]
    omega
  · rw [Int.gcd_comm]
    have e1 : (l % r).natAbs = l.natAbs % r.natAbs := by
      have : ((l % r).natAbs : Int) = ((l.natAbs % r.natAbs : Nat) : Int) := by
        rw [Int.natAbs_of_nonneg (Int.emod_nonneg _ (by omega)), Int.natCast_emod, Int.natAbs_of_nonneg (by omega), Int.natAbs_of_nonneg h2]
      omega
    unfold Int.gcd at *
    rw [e1, ← Nat.gcd_rec, Nat.gcd_comm]
    exact hgcd

theorem Euc.not_zero {a l g f : Int} (h : Euc a l 0 g f) : False := by
  obtain ⟨h1, _, _, _, _, _, _, _, hg⟩ := h
  rw [Int.gcd_zero_right] at hg
  omega

theorem Euc.one {a l g f : Int} (h : Euc a l 1 g f) : fmul a f = 1 := by
  obtain ⟨_, _, _, _, _, _, _, hf, _⟩ := h
  unfold fmul
  rw [Int.mul_comm]
  generalize f * a = x at *
  omega

/-- the inverse of a, by Fermat's little theorem -/
def finv (a : Int) : Int := fpow a 18446744069414584319

theorem El.not_dvd {a : Int} (ha : El a) (h0 : a ≠ 0) : ¬ P ∣ a.toNat := by
  unfold El at ha
  intro hd
  have := Nat.le_of_dvd (by omega) hd
  have : P = 18446744069414584321 := rfl
  omega

/-- a product modulo the order, in natural numbers -/
theorem fmul_nat {a b : Int} (ha : El a) (hb : El b) : fmul a b = ((a.toNat * b.toNat % P : Nat) : Int) := by
  unfold El at ha hb
  have hP : ((P : Nat) : Int) = 18446744069414584321 := rfl
  unfold fmul
  rw [Int.natCast_emod, Int.natCast_mul, hP, Int.toNat_of_nonneg ha.1, Int.toNat_of_nonneg hb.1]

theorem fpow_nat {a : Int} (ha : El a) (n : Nat) : fpow a n = ((a.toNat ^ n % P : Nat) : Int) := by
  unfold El at ha
  have hP : ((P : Nat) : Int) = 18446744069414584321 := rfl
  unfold fpow
  rw [Int.natCast_emod, Int.natCast_pow, hP, Int.toNat_of_nonneg ha.1]
  rfl

theorem fmul_cancel {a x y : Int} (ha : El a) (h0 : a ≠ 0) (hx : El x) (hy : El y) (h : fmul a x = fmul a y) : x = y := by
  rw [fmul_nat ha hx, fmul_nat ha hy] at h
  have := P_prime.cancel (El.not_dvd ha h0) (Int.ofNat_inj.mp h)
  unfold El at hx hy
  have hP : P = 18446744069414584321 := rfl
  rw [Nat.mod_eq_of_lt (by omega), Nat.mod_eq_of_lt (by omega)] at this
  omega

theorem fpow_succ (a : Int) (n : Nat) : fmul a (fpow a n) = fpow a ((n + 1 : Nat) : Int) := by
  unfold fmul fpow
  show a * (a ^ n % 18446744069414584321) % 18446744069414584321 = a ^ (n + 1) % 18446744069414584321
  rw [Int.mul_comm, mulmod_left, Int.pow_succ]

theorem fpow_fermat {a : Int} (ha : El a) (h0 : a ≠ 0) : fpow a 18446744069414584320 = 1 := by
  have h := P_prime.fermat_one (El.not_dvd ha h0)
  have e := fpow_nat ha (P - 1)
  rw [h] at e
  exact e

theorem fmul_finv {a : Int} (ha : El a) (h0 : a ≠ 0) : fmul a (finv a) = 1 :=
  (fpow_succ a 18446744069414584319).trans (fpow_fermat ha h0)

theorem Euc.finv {a l g f : Int} (ha : El a) (h0 : a ≠ 0) (h : Euc a l 1 g f) : f = finv a :=
  fmul_cancel ha h0 h.2.2.2.2.2.1 (El_fpow _ _) (h.one.trans (fmul_finv ha h0).symm)


end Gold

namespace Gold
set_option linter.unusedVariables false
set_option linter.unusedSimpArgs false
set_option linter.unusedSectionVars false
set_option maxRecDepth 8000

theorem fsub_eq (a b : Int) : fsub a b = fadd a (fneg b) := by unfold fsub fadd fneg; omega
theorem fpow_add (a m n : Int) (hm : 0 ≤ m) (hn : 0 ≤ n) : fmul (fpow a m) (fpow a n) = fpow a (m + n) := by
  unfold fmul fpow
  rw [mulmod_left, Int.mul_comm, mulmod_left, Int.mul_comm, ← Int.pow_add, Int.toNat_add hm hn]
theorem fpow_zero (a : Int) : fpow a 0 = 1 := by
  unfold fpow
  show a ^ 0 % _ = 1
  rw [Int.pow_zero]
  rfl
end Gold

namespace Gold
set_option linter.unusedVariables false
set_option linter.unusedSimpArgs false
set_option linter.unusedSectionVars false
set_option maxRecDepth 8000

/-- the field -/
abbrev F := Fin 18446744069414584321

/-- the number that stands for a field element in a program -/
def vF (x : F) : Int := (x.val : Int)
/-- the field element of an integer -/
def toF (a : Int) : F := ⟨(a % 18446744069414584321).toNat, by omega⟩

theorem El_vF (x : F) : El (vF x) := by unfold El vF; have := x.isLt; omega
theorem vF_toF (a : Int) : vF (toF a) = fred a := by unfold vF toF fred; simp only; omega
theorem vF_toF_El {a : Int} (h : El a) : vF (toF a) = a := by rw [vF_toF]; unfold fred; exact h.mod
theorem toF_vF (x : F) : toF (vF x) = x := by
  apply Fin.ext
  unfold toF vF
  have := x.isLt
  simp only
  omega
theorem vF_inj {x y : F} (h : vF x = vF y) : x = y := by rw [← toF_vF x, h, toF_vF]
theorem vF_zero : vF 0 = 0 := rfl
theorem vF_one : vF 1 = 1 := rfl
theorem vF_add (x y : F) : fadd (vF x) (vF y) = vF (x + y) := by
  unfold fadd vF
  rw [Fin.val_add]
  omega
theorem vF_neg (x : F) : fneg (vF x) = vF (-x) := by
  unfold fneg vF
  have : (-x).val = (18446744069414584321 - x.val) % 18446744069414584321 := rfl
  rw [this]
  have := x.isLt
  omega
theorem vF_sub (x y : F) : fsub (vF x) (vF y) = vF (x - y) := by
  have e : x - y = x + -y := by grind
  rw [e, ← vF_add, ← vF_neg, fsub_eq]
theorem vF_mul (x y : F) : fmul (vF x) (vF y) = vF (x * y) := by
  unfold fmul vF
  rw [Fin.val_mul]
  rw [Int.natCast_emod, Int.natCast_mul]
  rfl
theorem vF_pow (x : F) (n : Nat) : fpow (vF x) n = vF (x ^ n) := by
  induction n with
  | zero =>
    rw [show ((0 : Nat) : Int) = 0 from rfl, fpow_zero, show x ^ 0 = 1 by grind]
    rfl
  | succ n ih =>
    rw [← fpow_succ, ih, vF_mul, show x * x ^ n = x ^ (n + 1) by grind]
/-- the inverse -/
def invF (x : F) : F := x ^ 18446744069414584319
theorem vF_inv (x : F) : finv (vF x) = vF (invF x) := vF_pow x 18446744069414584319

theorem vF_ne_zero {x : F} (h : x ≠ 0) : vF x ≠ 0 := fun e => h (vF_inj e)
theorem mul_invF {x : F} (h : x ≠ 0) : x * invF x = 1 := by
  apply vF_inj
  rw [← vF_mul, ← vF_inv]
  exact fmul_finv (El_vF x) (vF_ne_zero h)
theorem F_cancel {x y z : F} (h : x ≠ 0) (e : x * y = x * z) : y = z := by
  have h1 := mul_invF h
  grind
theorem F_zero_divisor {x y : F} (e : x * y = 0) : x = 0 ∨ y = 0 := by
  by_cases h : x = 0
  · exact Or.inl h
  · right
    refine F_cancel h (e.trans ?_)
    grind
theorem F_zero_pow (n : Nat) (h : 0 < n) : (0 : F) ^ n = 0 := by
  obtain ⟨m, rfl⟩ : ∃ m, n = m + 1 := ⟨n - 1, by omega⟩
  rw [show (0 : F) ^ (m + 1) = 0 ^ m * 0 by grind]
  grind
theorem F_fermat_one {x : F} (h : x ≠ 0) : x ^ 18446744069414584320 = 1 := by
  apply vF_inj
  rw [← vF_pow]
  exact fpow_fermat (El_vF x) (vF_ne_zero h)
theorem F_pow_mul (x : F) (m n : Nat) : x ^ (m * n) = (x ^ m) ^ n := by
  induction n with
  | zero => grind
  | succ n ih => rw [show m * (n + 1) = m * n + m by rfl, show x ^ (m * n + m) = x ^ (m * n) * x ^ m by grind, ih, show (x ^ m) ^ (n + 1) = (x ^ m) ^ n * x ^ m by grind]
theorem F_mul_pow (x y : F) (n : Nat) : (x * y) ^ n = x ^ n * y ^ n := by
  induction n with
  | zero => grind
  | succ n ih => rw [show (x * y) ^ (n + 1) = (x * y) ^ n * (x * y) by grind, ih]; grind

theorem seven_half_F : (7 : F) ^ 9223372034707292160 = -1 := by
  apply vF_inj
  rw [← vF_pow]
  exact (show fpow 7 9223372034707292160 = 18446744069414584320 by
    have h := fpow_nat (a := 7) (by unfold El; omega) 9223372034707292160
    have e := pm_eq 64 7 9223372034707292160 (by decide)
    rw [show Int.toNat 7 = 7 from rfl, ← e, minus_one] at h
    exact h)

/-- 7 is no square -/
theorem seven_no_square (x : F) : x * x ≠ 7 := by
  intro h
  have h0 : x ≠ 0 := by
    rintro rfl
    exact absurd h (by decide)
  have e : (x * x) ^ 9223372034707292160 = 1 := by
    rw [show x * x = x ^ 2 by grind, ← F_pow_mul]
    exact F_fermat_one h0
  rw [h, seven_half_F] at e
  exact absurd e (by decide)

end Gold

