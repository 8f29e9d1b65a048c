/- What is known of slices of elements of the extension field: what they read as, and what keeps it; rows of the call's own; no conditions. -/
import Derived.Test.YtombcjdhjcmhhaaExtU
import Derived.Test.YtombcjdhjcmhhaaPolM
import Derived.Test.YtombcjdhjcmhhaaHeld
import Derived.Laws.MakeOwn
import Derived.Laws.AppendOwn
import Derived.Laws.OwnMore
import Derived.Deep.AppendLies
namespace Go.Proofs.Ytombcjdhjcmhhaa
set_option maxRecDepth 8000
open Go.RowKit Gold

/-- the two cells of an element -/
def AtV (w : World) (ad : Addr) (i : Nat) (p : Value × Value) : Prop :=
  w.cell? (ad.add (i * 2)) = some p.1 ∧ w.cell? ⟨(ad.add (i * 2)).block, (ad.add (i * 2)).off + 1, none⟩ = some p.2
theorem add_block (a : Addr) (n : Nat) : (a.add n).block = a.block := by unfold Addr.add; split <;> rfl
theorem add_add' (a : Addr) (i j : Nat) : (a.add i).add j = a.add (i + j) := by
  unfold Addr.add
  by_cases hi : i = 0 <;> by_cases hj : j = 0 <;> simp [hi, hj, Nat.add_assoc]
theorem add_succ (a : Addr) (k : Nat) : a.add (k + 1) = ⟨(a.add k).block, (a.add k).off + 1, none⟩ := by
  rw [← add_add']
  generalize a.add k = b
  unfold Addr.add
  simp
theorem add_base (g k : Nat) : (⟨g, 0, none⟩ : Addr).add k = ⟨g, k, none⟩ := by
  unfold Addr.add
  split
  · next h => rw [h]
  · simp
theorem AtV.keep {w w' : World} {ad : Addr} {i : Nat} {p : Value × Value} (h : AtV w ad i p) (hb : Below w.heap.size w w') : AtV w' ad i p := ⟨cell_keep h.1 hb, cell_keep h.2 hb⟩

/-- a slice value that reads as the pairs of cells ps -/
structure SlR (w : World) (A : Option Addr) (n c : Nat) (ps : List (Value × Value)) : Prop where
  len : n = ps.length
  cap : n ≤ c
  top : c ≤ 9223372036854775807
  nil : A = none → c = 0
  cells : ∀ i p, ps[i]? = some p → ∃ ad, A = some ad ∧ AtV w ad i p
def valE (x : E2) : Value × Value := (.int .u64 (vF x.A), .int .u64 (vF x.B))
/-- a slice value that reads as the elements xs -/
def Sl (w : World) (A : Option Addr) (n c : Nat) (xs : List E2) : Prop := SlR w A n c (xs.map valE)

section
variable {w w' : World} {A : Option Addr} {n c : Nat} {ps : List (Value × Value)} {xs : List E2}
theorem SlR.keep (h : SlR w A n c ps) (hb : Below w.heap.size w w') : SlR w' A n c ps :=
  ⟨h.len, h.cap, h.top, h.nil, fun i p hp => by obtain ⟨ad, e, ha⟩ := h.cells i p hp; exact ⟨ad, e, ha.keep hb⟩⟩
theorem Sl.keep (h : Sl w A n c xs) (hb : Below w.heap.size w w') : Sl w' A n c xs := SlR.keep h hb
theorem Sl.len (h : Sl w A n c xs) : n = xs.length := by simpa using SlR.len h
theorem Sl.cap (h : Sl w A n c xs) : n ≤ c := SlR.cap h
theorem Sl.top (h : Sl w A n c xs) : c ≤ 9223372036854775807 := SlR.top h
theorem Sl.at_ {i : Nat} {x : E2} (h : Sl w A n c xs) (hx : xs[i]? = some x) : ∃ ad, A = some ad ∧ w.cell? (ad.add (i * 2)) = some (.int .u64 (vF x.A)) ∧ w.cell? ⟨(ad.add (i * 2)).block, (ad.add (i * 2)).off + 1, none⟩ = some (.int .u64 (vF x.B)) := by
  obtain ⟨ad, e, h1, h2⟩ := SlR.cells h i (valE x) (by simp [hx])
  exact ⟨ad, e, h1, h2⟩
theorem Sl.get {i : Nat} (h : Sl w A n c xs) (hi : i < n) : ∃ x, xs[i]? = some x := ⟨xs[i]'(by have := h.len; omega), List.getElem?_eq_getElem _⟩
theorem Sl.take (h : Sl w A n c xs) {k : Nat} (hk : k ≤ n) : Sl w A k c (xs.take k) := by
  refine ⟨by have := h.len; simp; omega, by have := h.cap; omega, h.top, SlR.nil h, fun i p hp => ?_⟩
  refine SlR.cells h i p ?_
  rw [List.map_take] at hp
  have hl := (List.getElem?_eq_some_iff.1 hp).1
  rw [List.getElem?_take_of_lt (by simp at hl; omega)] at hp
  exact hp
theorem Sl.drop (h : Sl w A n c xs) {k : Nat} (hk : k ≤ n) : Sl w (if c = k then A else A.map (·.add (k * 2))) (n - k) (c - k) (xs.drop k) := by
  refine ⟨by have := h.len; simp; omega, by have := h.cap; omega, by have := h.top; omega, ?_, fun i p hp => ?_⟩
  · intro e
    by_cases hck : c = k
    · omega
    · rw [if_neg hck] at e
      cases A with
      | none => have := SlR.nil h rfl; omega
      | some a => cases e
  rw [List.map_drop, List.getElem?_drop] at hp
  obtain ⟨ad, e, h1, h2⟩ := SlR.cells h _ p hp
  have hl := (List.getElem?_eq_some_iff.1 hp).1
  have hn := SlR.len h
  have hc := h.cap
  have hck : c ≠ k := by simp at hl hn; omega
  rw [if_neg hck, e]
  refine ⟨_, rfl, ?_, ?_⟩
  · rw [add_add', show k * 2 + i * 2 = (k + i) * 2 by omega]; exact h1
  · rw [add_add', show k * 2 + i * 2 = (k + i) * 2 by omega]; exact h2
theorem Sl.nil (w : World) : Sl w none 0 0 [] := ⟨rfl, Nat.le_refl _, Nat.zero_le _, fun _ => rfl, fun i p hp => by simp at hp⟩
theorem Sl.empty (w : World) (a : Addr) (c : Nat) (hc : c ≤ 9223372036854775807) : Sl w (some a) 0 c [] := ⟨rfl, Nat.zero_le _, hc, (fun e => by cases e), fun i p hp => by simp at hp⟩
theorem Sl.none (h : Sl w none n c xs) : n = 0 ∧ c = 0 ∧ xs = [] := by
  have h1 := SlR.nil h rfl
  have h2 := SlR.cap h
  have h3 : n = xs.length := by simpa using SlR.len h
  exact ⟨by omega, h1, List.eq_nil_of_length_eq_zero (by omega)⟩
end

/-! ### Worlds that only add -/
theorem below_new2 (w : World) (o : Obj) (k l : Nat) (u v : Value) : Below w.heap.size w (((w.alloc o).setCell ⟨w.heap.size, k, none⟩ u).setCell ⟨w.heap.size, l, none⟩ v) :=
  Below.setCell (Below.setCell (Below.alloc (Below.refl _ _) (Nat.le_refl _) _) (Nat.le_refl _) _) (Nat.le_refl _) _
theorem below_step {w W W1 : World} (h : Below w.heap.size w W) (h1 : Below W.heap.size W W1) : Below w.heap.size w W1 := h.trans (h1.mono h.size)
theorem below_draw {w W : World} (h : Below w.heap.size w W) : Below w.heap.size w W.drew := h.drew

/-! ### Rows of the call's own -/
def cellsE (xs : List E2) : List Value := xs.flatMap fun x => [.int .u64 (vF x.A), .int .u64 (vF x.B)]
theorem cellsE_length (xs : List E2) : (cellsE xs).length = xs.length * 2 := by
  induction xs with
  | nil => rfl
  | cons x xs ih => unfold cellsE at *; rw [List.flatMap_cons, List.length_append, ih]; simp; omega
theorem cellsE_append (xs ys : List E2) : cellsE (xs ++ ys) = cellsE xs ++ cellsE ys := by unfold cellsE; simp
theorem cellsE_even {xs : List E2} {i : Nat} {x : E2} (h : xs[i]? = some x) : (cellsE xs)[i * 2]? = some (.int .u64 (vF x.A)) := by
  induction xs generalizing i with
  | nil => simp at h
  | cons y xs ih =>
    cases i with
    | zero => simp at h; subst h; rfl
    | succ i =>
      simp at h
      have := ih h
      unfold cellsE at *
      rw [List.flatMap_cons, List.getElem?_append_right (by simp; omega)]
      simpa [show (i + 1) * 2 - 2 = i * 2 by omega] using this
theorem cellsE_odd {xs : List E2} {i : Nat} {x : E2} (h : xs[i]? = some x) : (cellsE xs)[i * 2 + 1]? = some (.int .u64 (vF x.B)) := by
  induction xs generalizing i with
  | nil => simp at h
  | cons y xs ih =>
    cases i with
    | zero => simp at h; subst h; rfl
    | succ i =>
      simp at h
      have := ih h
      unfold cellsE at *
      rw [List.flatMap_cons, List.getElem?_append_right (by simp; omega)]
      simpa [show (i + 1) * 2 + 1 - 2 = i * 2 + 1 by omega] using this
theorem cellsE_set (xs : List E2) (i : Nat) (x : E2) : ((cellsE xs).set (i * 2) (.int .u64 (vF x.A))).set (i * 2 + 1) (.int .u64 (vF x.B)) = cellsE (xs.set i x) := by
  induction xs generalizing i with
  | nil => rfl
  | cons y xs ih =>
    cases i with
    | zero => rfl
    | succ i =>
      have := ih i
      unfold cellsE at *
      rw [List.flatMap_cons, show (i + 1) * 2 = i * 2 + 2 by omega]
      simp only [List.cons_append, List.nil_append, List.set_cons_succ]
      rw [this]
      rfl
theorem cellsE_one {xs : List E2} {u : Value} (h : u ∈ cellsE xs) : u.oneCell' = true := by
  unfold cellsE at h
  rw [List.mem_flatMap] at h
  obtain ⟨x, _, h⟩ := h
  simp at h
  rcases h with rfl | rfl <;> rfl

/-- block g holds just the elements xs -/
def Row (w : World) (g : Nat) (xs : List E2) : Prop := w.heap[g]? = some (.cells (cellsE xs).toArray 43 (0, 0))
section
variable {w w' : World} {g : Nat} {xs : List E2}
theorem Row.lt (h : Row w g xs) : g < w.heap.size := (Array.getElem?_eq_some_iff.1 h).1
theorem Row.keep (h : Row w g xs) (hb : Below w.heap.size w w') : Row w' g xs := heap_keep h hb
theorem Row.at_ {i : Nat} {x : E2} (h : Row w g xs) (hx : xs[i]? = some x) : w.cell? ⟨g, i * 2, none⟩ = some (.int .u64 (vF x.A)) ∧ w.cell? ⟨g, i * 2 + 1, none⟩ = some (.int .u64 (vF x.B)) := by
  unfold Row at h
  exact ⟨by simpa [World.cell?, h] using cellsE_even hx, by simpa [World.cell?, h] using cellsE_odd hx⟩
theorem Row.free (h : Row w g xs) (k : Nat) : w.frozen? ⟨g, k, none⟩ = false := by
  unfold Row at h
  simp [World.frozen?, h]
theorem Row.set (h : Row w g xs) (i : Nat) (x : E2) : Row ((w.setCell ⟨g, i * 2, none⟩ (.int .u64 (vF x.A))).setCell ⟨g, i * 2 + 1, none⟩ (.int .u64 (vF x.B))) g (xs.set i x) := by
  have h1 := heap_setCell_at (i := i * 2) h (.int .u64 (vF x.A))
  have h2 := heap_setCell_at (i := i * 2 + 1) h1 (.int .u64 (vF x.B))
  unfold Row
  rw [h2, ← cellsE_set]
  simp
theorem Row.far (h : Row w g xs) {a : Addr} (x : Value) (e : g ≠ a.block) : Row (w.setCell a x) g xs := (Below.heap_setCell w a x g e).trans h
theorem Row.sl (h : Row w g xs) (hl : xs.length ≤ 9223372036854775807) : Sl w (some ⟨g, 0, none⟩) xs.length xs.length xs := by
  refine ⟨by simp, Nat.le_refl _, hl, (fun e => by cases e), fun i p hp => ⟨_, rfl, ?_⟩⟩
  rw [List.getElem?_map] at hp
  cases hx : xs[i]? with
  | none => rw [hx] at hp; cases hp
  | some x =>
    rw [hx] at hp
    injection hp with hp
    subst hp
    obtain ⟨h1, h2⟩ := h.at_ hx
    unfold AtV
    rw [add_base]
    exact ⟨h1, h2⟩
theorem Row.slc {n c : Nat} (h : Row w g xs) (hn : n = xs.length) (hc : n ≤ c) (hl : c ≤ 9223372036854775807) : Sl w (some ⟨g, 0, none⟩) n c xs := by
  have h1 := h.sl (by omega)
  exact ⟨by simp [hn], hc, hl, (fun e => by cases e), h1.cells⟩
end

theorem ext_info : (Try.prog.info? 43).map (fun i => (i.zero, i.size, i.bytes)) = some (some (.agg #[.int .u64 0, .int .u64 0]), 2, 16) := by kernel_rfl
theorem cellsE_zero (n : Nat) : (madeCells #[Value.int .u64 0, Value.int .u64 0] (n * 2)) = (cellsE (List.replicate n E2.zero)).toArray := by
  apply Array.ext
  · rw [size_madeCells, List.size_toArray, cellsE_length, List.length_replicate]
  · intro i h1 h2
    rw [size_madeCells] at h1
    have hx : (List.replicate n E2.zero)[i / 2]? = some E2.zero := by rw [List.getElem?_replicate, if_pos (by omega)]
    have he := cellsE_even hx
    have ho := cellsE_odd hx
    simp only [madeCells, Array.getElem_map, Array.getElem_range, List.getElem_toArray]
    rcases Nat.mod_two_eq_zero_or_one i with hm | hm
    · rw [show i / 2 * 2 = i by omega] at he
      rw [List.getElem?_eq_getElem (by rw [List.size_toArray] at h2; exact h2)] at he
      injection he with he
      rw [he]
      simp [hm, E2.zero, vF_zero]
    · rw [show i / 2 * 2 + 1 = i by omega] at ho
      rw [List.getElem?_eq_getElem (by rw [List.size_toArray] at h2; exact h2)] at ho
      injection ho with ho
      rw [ho]
      simp [hm, E2.zero, vF_zero]
theorem run_makeE (n : Nat) (hn : n ≤ 65536) (w : World) : (Instr.makeSlice 22 (.int .i64 (n : Int)) (.int .i64 (n : Int))).run Try.prog w = .ok (.slice (some ⟨w.heap.size, 0, none⟩) n n) (w.alloc (.cells (cellsE (List.replicate n E2.zero)).toArray 43)) := by
  obtain ⟨i, hi, hz, hs, hb⟩ := info_parts ext_info
  have h1 : (i.bytes : Int) * (n : Int) ≤ 281474976710656 := by
    rw [hb]
    omega
  have hr := run_make (P := Try.prog) w 22 43 i (.agg #[.int .u64 0, .int .u64 0]) Try.underlying22 hi hz .i64 .i64 (n : Int) (n : Int) (by omega) (by omega) h1 (by omega)
  simp only [Int.toNat_natCast] at hr
  rw [hr, hs, ← cellsE_zero]
  rfl

end Go.Proofs.Ytombcjdhjcmhhaa
