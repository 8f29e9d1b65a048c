/- Slices of words: what they read as, what keeps them; blocks of field elements, made, written and read; slices of the call's own that grow; no conditions but lengths. -/
import Derived.Test.YtombcjdhjcmhhaaFieldF
import Derived.Test.YtombcjdhjcmhhaaNttM
import Derived.Test.YtombcjdhjcmhhaaLex
import Derived.Laws.MakeOwn
import Derived.Laws.AppendOwn
import Derived.Laws.OwnMore
import Derived.Laws.AppendOwnNone
import Derived.ArgAppend
import Derived.OwnWalk
namespace Go.Proofs.Ytombcjdhjcmhhaa
set_option maxRecDepth 8000
open Go.RowKit Gold

theorem bel_step {w W W1 : World} (h : Below w.heap.size w W) (h1 : Below W.heap.size W W1) : Below w.heap.size w W1 := h.trans (h1.mono h.size)
theorem ad_base (g k : Nat) : (⟨g, 0, none⟩ : Addr).add k = ⟨g, k, none⟩ := by rw [Addr.add_lit, Nat.zero_add]
theorem ad_add (a : Addr) (i j : Nat) : (a.add i).add j = a.add (i + j) := by
  unfold Addr.add
  by_cases hi : i = 0 <;> by_cases hj : j = 0 <;> simp [hi, hj, Nat.add_assoc]
/-- a slice value that reads as the words zs -/
structure Su (w : World) (A : Option Addr) (n c : Nat) (zs : List Int) : Prop where
  len : n = zs.length
  cap : n ≤ c
  top : c ≤ 9223372036854775807
  nil : A = none → c = 0
  cells : ∀ i z, zs[i]? = some z → ∃ ad, A = some ad ∧ w.cell? (ad.add i) = some (.int .u64 z)
/-- a slice value that reads as the field elements xs -/
def Sf (w : World) (A : Option Addr) (n c : Nat) (xs : List F) : Prop := Su w A n c (xs.map vF)
section
variable {w w' : World} {A : Option Addr} {n c : Nat} {zs : List Int} {xs : List F}
theorem Su.keep (h : Su w A n c zs) (hb : Below w.heap.size w w') : Su w' A n c zs :=
  ⟨h.len, h.cap, h.top, h.nil, fun i z hz => by obtain ⟨ad, e, hc⟩ := h.cells i z hz; exact ⟨ad, e, cell_keep hc hb⟩⟩
theorem Sf.keep (h : Sf w A n c xs) (hb : Below w.heap.size w w') : Sf w' A n c xs := Su.keep h hb
theorem Sf.len (h : Sf w A n c xs) : n = xs.length := by simpa using Su.len h
theorem Sf.cap (h : Sf w A n c xs) : n ≤ c := Su.cap h
theorem Sf.top (h : Sf w A n c xs) : c ≤ 9223372036854775807 := Su.top h
theorem Su.at_ {i : Nat} {z : Int} (h : Su w A n c zs) (hz : zs[i]? = some z) : ∃ ad, A = some ad ∧ w.cell? (ad.add i) = some (.int .u64 z) := h.cells i z hz
theorem Sf.at_ {i : Nat} {x : F} (h : Sf w A n c xs) (hx : xs[i]? = some x) : ∃ ad, A = some ad ∧ w.cell? (ad.add i) = some (.int .u64 (vF x)) := Su.cells h i (vF x) (by simp [hx])
theorem Su.get {i : Nat} (h : Su w A n c zs) (hi : i < n) : ∃ z, zs[i]? = some z := ⟨zs[i]'(by have := h.len; omega), List.getElem?_eq_getElem _⟩
theorem Sf.get {i : Nat} (h : Sf w A n c xs) (hi : i < n) : ∃ x, xs[i]? = some x := ⟨xs[i]'(by have := h.len; omega), List.getElem?_eq_getElem _⟩
theorem Su.take (h : Su w A n c zs) {k : Nat} (hk : k ≤ n) : Su w A k c (zs.take k) := by
  refine ⟨by have := h.len; simp; omega, by have := h.cap; omega, h.top, h.nil, fun i z hz => h.cells i z ?_⟩
  have hl := (List.getElem?_eq_some_iff.1 hz).1
  rw [List.getElem?_take_of_lt (by simp at hl; omega)] at hz
  exact hz
theorem Su.cut {k d : Nat} (h : Su w A n c zs) (hk : k ≤ n) (hd : k ≤ d) (hc : d ≤ c) (h0 : A = none → d = 0) : Su w A k d (zs.take k) := by
  have h1 := h.take hk
  exact ⟨h1.len, hd, by have := h.top; omega, h0, h1.cells⟩
theorem Sf.cut {k d : Nat} (h : Sf w A n c xs) (hk : k ≤ n) (hd : k ≤ d) (hc : d ≤ c) (h0 : A = none → d = 0) : Sf w A k d (xs.take k) := by
  have h1 := Su.cut h hk hd hc h0
  rw [← List.map_take] at h1
  exact h1
theorem Sf.nil (w : World) : Sf w none 0 0 [] := ⟨rfl, Nat.le_refl _, Nat.zero_le _, fun _ => rfl, fun i p hp => by simp at hp⟩
theorem Sf.empty (w : World) (A : Option Addr) (c : Nat) (hc : c ≤ 9223372036854775807) (h0 : A = none → c = 0) : Sf w A 0 c [] := ⟨rfl, Nat.zero_le _, hc, h0, fun i p hp => by simp at hp⟩
theorem Sf.cast {ys : List F} (h : Sf w A n c xs) (e : xs = ys) : Sf w A n c ys := e ▸ h
end

/-! ### Blocks of field elements -/
def cellsF (xs : List F) : List Value := xs.map fun x => .int .u64 (vF x)
theorem cellsF_length (xs : List F) : (cellsF xs).length = xs.length := by unfold cellsF; simp
theorem cellsF_append (xs ys : List F) : cellsF (xs ++ ys) = cellsF xs ++ cellsF ys := by unfold cellsF; simp
theorem cellsF_get {xs : List F} {i : Nat} {x : F} (h : xs[i]? = some x) : (cellsF xs)[i]? = some (.int .u64 (vF x)) := by unfold cellsF; simp [h]
theorem cellsF_one {xs : List F} {u : Value} (h : u ∈ cellsF xs) : u.oneCell' = true := by
  unfold cellsF at h
  rw [List.mem_map] at h
  obtain ⟨x, _, rfl⟩ := h
  rfl
/-- the list of f 0 .. f (N - 1) -/
def tabF (N : Nat) (f : Nat → F) : List F := (List.range N).map f
theorem tabF_length (N : Nat) (f : Nat → F) : (tabF N f).length = N := by unfold tabF; simp
theorem tabF_get {N i : Nat} (f : Nat → F) (h : i < N) : (tabF N f)[i]? = some (f i) := by unfold tabF; simp [h]
theorem tabF_congr {N : Nat} {f g : Nat → F} (h : ∀ i, i < N → f i = g i) : tabF N f = tabF N g := by
  unfold tabF
  exact List.map_congr_left fun i hi => h i (by simpa using hi)
theorem tabF_eq {xs : List F} {N : Nat} (h : xs.length = N) : xs = tabF N (cfF xs) := by
  apply List.ext_getElem?
  intro i
  by_cases hi : i < N
  · rw [tabF_get _ hi, List.getElem?_eq_getElem (by omega), cfF_some (List.getElem?_eq_getElem (by omega))]
  · rw [List.getElem?_eq_none (by omega), List.getElem?_eq_none (by rw [tabF_length]; omega)]
theorem cfF_tab {N i : Nat} (f : Nat → F) (h : i < N) : cfF (tabF N f) i = f i := cfF_some (tabF_get f h)
theorem tabF_set (N i : Nat) (f : Nat → F) (y : F) : (tabF N f).set i y = tabF N fun p => if p = i then y else f p := by
  apply List.ext_getElem?
  intro p
  rw [List.getElem?_set]
  by_cases hp : p < N
  · rw [tabF_get _ hp, tabF_get _ hp, tabF_length]
    by_cases e : i = p
    · subst e; simp [hp]
    · simp [e, Ne.symm e]
  · rw [List.getElem?_eq_none (l := tabF N fun p => if p = i then y else f p) (by rw [tabF_length]; omega)]
    by_cases e : i = p
    · subst e; simp [tabF_length, hp]
    · simp [e]; rw [tabF_length]; omega
theorem tabF_succ (N : Nat) (f : Nat → F) : tabF (N + 1) f = tabF N f ++ [f N] := by unfold tabF; rw [List.range_succ, List.map_append]; rfl
theorem tabF_take {N k : Nat} (f : Nat → F) (h : k ≤ N) : (tabF N f).take k = tabF k f := by
  apply List.ext_getElem?
  intro i
  rw [List.getElem?_take]
  by_cases hi : i < k
  · rw [if_pos hi, tabF_get _ hi, tabF_get _ (by omega)]
  · rw [if_neg hi, List.getElem?_eq_none (by rw [tabF_length]; omega)]


end Go.Proofs.Ytombcjdhjcmhhaa
