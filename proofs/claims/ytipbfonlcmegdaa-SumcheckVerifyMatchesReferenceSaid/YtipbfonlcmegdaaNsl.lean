/- Slices of words: what they read as, what keeps them; blocks of field elements, made, written and read; slices of the call's own that grow; no conditions but lengths. -/
import Derived.Test.YtipbfonlcmegdaaFieldF
import Derived.Test.YtipbfonlcmegdaaNttM
import Derived.Test.YtipbfonlcmegdaaLex
import Derived.Laws.MakeOwn
import Derived.Laws.AppendOwn
import Derived.Laws.OwnMore
import Derived.Laws.AppendOwnNone
import Derived.ArgAppend
import Derived.OwnWalk
namespace Go.Proofs.Ytipbfonlcmegdaa
set_option maxRecDepth 8000
open Go.RowKit Gold

theorem bel_step {w W W1 : World} (h : Below w.heap.size w W) (h1 : Below W.heap.size W W1) : Below w.heap.size w W1 := h.trans (h1.mono h.size)
theorem ad_base (g k : Nat) : (⟨g, 0, none⟩ : Addr).add k = ⟨g, k, none⟩ := by rw [Addr.add_lit, Nat.zero_add]
theorem ad_add (a : Addr) (i j : Nat) : (a.add i).add j = a.add (i + j) := by
  unfold Addr.add
  by_cases hi : i = 0 <;> by_cases hj : j = 0 <;> simp [hi, hj, Nat.add_assoc]
/-- a slice value that reads as the words zs -/
structure Su (w : World) (A : Option Addr) (n c : Nat) (zs : List Int) : Prop where
  len : n = zs.length
  cap : n ≤ c
  top : c ≤ 9223372036854775807
  nil : A = none → c = 0
  cells : ∀ i z, zs[i]? = some z → ∃ ad, A = some ad ∧ w.cell? (ad.add i) = some (.int .u64 z)
/-- a slice value that reads as the field elements xs -/
def Sf (w : World) (A : Option Addr) (n c : Nat) (xs : List F) : Prop := Su w A n c (xs.map vF)
section
variable {w w' : World} {A : Option Addr} {n c : Nat} {zs : List Int} {xs : List F}
theorem Su.keep (h : Su w A n c zs) (hb : Below w.heap.size w w') : Su w' A n c zs :=
  ⟨h.len, h.cap, h.top, h.nil, fun i z hz => by obtain ⟨ad, e, hc⟩ := h.cells i z hz; exact ⟨ad, e, cell_keep hc hb⟩⟩
theorem Sf.keep (h : Sf w A n c xs) (hb : Below w.heap.size w w') : Sf w' A n c xs := Su.keep h hb
theorem Sf.len (h : Sf w A n c xs) : n = xs.length := by simpa using Su.len h
theorem Sf.cap (h : Sf w A n c xs) : n ≤ c := Su.cap h
theorem Sf.top (h : Sf w A n c xs) : c ≤ 9223372036854775807 := Su.top h
theorem Su.at_ {i : Nat} {z : Int} (h : Su w A n c zs) (hz : zs[i]? = some z) : ∃ ad, A = some ad ∧ w.cell? (ad.add i) = some (.int .u64 z) := h.cells i z hz
theorem Sf.at_ {i : Nat} {x : F} (h : Sf w A n c xs) (hx : xs[i]? = some x) : ∃ ad, A = some ad ∧ w.cell? (ad.add i) = some (.int .u64 (vF x)) := Su.cells h i (vF x) (by simp [hx])
theorem Su.get {i : Nat} (h : Su w A n c zs) (hi : i < n) : ∃ z, zs[i]? = some z := ⟨zs[i]'(by have := h.len; omega), List.getElem?_eq_getElem _⟩
theorem Sf.get {i : Nat} (h : Sf w A n c xs) (hi : i < n) : ∃ x, xs[i]? = some x := ⟨xs[i]'(by have := h.len; omega), List.getElem?_eq_getElem _⟩
theorem Su.take (h : Su w A n c zs) {k : Nat} (hk : k ≤ n) : Su w A k c (zs.take k) := by
  refine ⟨by have := h.len; simp; omega, by have := h.cap; omega, h.top, h.nil, fun i z hz => h.cells i z ?_⟩
  have hl := (List.getElem?_eq_some_iff.1 hz).1
  rw [List.getElem?_take_of_lt (by simp at hl; omega)] at hz
  exact hz
theorem Su.cut {k d : Nat} (h : Su w A n c zs) (hk : k ≤ n) (hd : k ≤ d) (hc : d ≤ c) (h0 : A = none → d = 0) : Su w A k d (zs.take k) := by
  have h1 := h.take hk
  exact ⟨h1.len, hd, by have := h.top; omega, h0, h1.cells⟩
theorem Sf.cut {k d : Nat} (h : Sf w A n c xs) (hk : k ≤ n) (hd : k ≤ d) (hc : d ≤ c) (h0 : A = none → d = 0) : Sf w A k d (xs.take k) := by
  have h1 := Su.cut h hk hd hc h0
  rw [← List.map_take] at h1
  exact h1
theorem Sf.nil (w : World) : Sf w none 0 0 [] := ⟨rfl, Nat.le_refl _, Nat.zero_le _, fun _ => rfl, fun i p hp => by simp at hp⟩
theorem Sf.empty (w : World) (A : Option Addr) (c : Nat) (hc : c ≤ 9223372036854775807) (h0 : A = none → c = 0) : Sf w A 0 c [] := ⟨rfl, Nat.zero_le _, hc, h0, fun i p hp => by simp at hp⟩
theorem Sf.cast {ys : List F} (h : Sf w A n c xs) (e : xs = ys) : Sf w A n c ys := e ▸ h
end

/-! ### Blocks of field elements -/
def cellsF (xs : List F) : List Value := xs.map fun x => .int .u64 (vF x)
theorem cellsF_length (xs : List F) : (cellsF xs).length = xs.length := by unfold cellsF; simp
theorem cellsF_append (xs ys : List F) : cellsF (xs ++ ys) = cellsF xs ++ cellsF ys := by unfold cellsF; simp
theorem cellsF_get {xs : List F} {i : Nat} {x : F} (h : xs[i]? = some x) : (cellsF xs)[i]? = some (.int .u64 (vF x)) := by unfold cellsF; simp [h]
theorem cellsF_one {xs : List F} {u : Value} (h : u ∈ cellsF xs) : u.oneCell' = true := by
  unfold cellsF at h
  rw [List.mem_map] at h
  obtain ⟨x, _, rfl⟩ := h
  rfl
/-- the list of f 0 .. f (N - 1) -/
def tabF (N : Nat) (f : Nat → F) : List F := (List.range N).map f
theorem tabF_length (N : Nat) (f : Nat → F) : (tabF N f).length = N := by unfold tabF; simp
theorem tabF_get {N i : Nat} (f : Nat → F) (h : i < N) : (tabF N f)[i]? = some (f i) := by unfold tabF; simp [h]
theorem tabF_congr {N : Nat} {f g : Nat → F} (h : ∀ i, i < N → f i = g i) : tabF N f = tabF N g := by
  unfold tabF
  exact List.map_congr_left fun i hi => h i (by simpa using hi)
theorem tabF_eq {xs : List F} {N : Nat} (h : xs.length = N) : xs = tabF N (cfF xs) := by
  apply List.ext_getElem?
  intro i
  by_cases hi : i < N
  · rw [tabF_get _ hi, List.getElem?_eq_getElem (by omega), cfF_some (List.getElem?_eq_getElem (by omega))]
  · rw [List.getElem?_eq_none (by omega), List.getElem?_eq_none (by rw [tabF_length]; omega)]
theorem cfF_tab {N i : Nat} (f : Nat → F) (h : i < N) : cfF (tabF N f) i = f i := cfF_some (tabF_get f h)
theorem tabF_set (N i : Nat) (f : Nat → F) (y : F) : (tabF N f).set i y = tabF N fun p => if p = i then y else f p := by
  apply List.ext_getElem?
  intro p
  rw [List.getElem?_set]
  by_cases hp : p < N
  · rw [tabF_get _ hp, tabF_get _ hp, tabF_length]
    by_cases e : i = p
    · subst e; simp [hp]
    · simp [e, Ne.symm e]
  · rw [List.getElem?_eq_none (l := tabF N fun p => if p = i then y else f p) (by rw [tabF_length]; omega)]
    by_cases e : i = p
    · subst e; simp [tabF_length, hp]
    · simp [e]; rw [tabF_length]; omega
theorem tabF_succ (N : Nat) (f : Nat → F) : tabF (N + 1) f = tabF N f ++ [f N] := by unfold tabF; rw [List.range_succ, List.map_append]; rfl
theorem tabF_take {N k : Nat} (f : Nat → F) (h : k ≤ N) : (tabF N f).take k = tabF k f := by
  apply List.ext_getElem?
  intro i
  rw [List.getElem?_take]
  by_cases hi : i < k
  · rw [if_pos hi, tabF_get _ hi, tabF_get _ (by omega)]
  · rw [if_neg hi, List.getElem?_eq_none (by rw [tabF_length]; omega)]

/-- block g holds just the elements xs -/
def RowF (w : World) (g : Nat) (xs : List F) : Prop := w.heap[g]? = some (.cells (cellsF xs).toArray 25 (0, 0))
section
variable {w w' : World} {g : Nat} {xs : List F}
theorem RowF.lt (h : RowF w g xs) : g < w.heap.size := (Array.getElem?_eq_some_iff.1 h).1
theorem RowF.keep (h : RowF w g xs) (hb : Below w.heap.size w w') : RowF w' g xs := heap_keep h hb
theorem RowF.same (h : RowF w g xs) (e : w'.heap[g]? = w.heap[g]?) : RowF w' g xs := e.trans h
theorem RowF.at_ {i : Nat} {x : F} (h : RowF w g xs) (hx : xs[i]? = some x) : w.cell? ⟨g, i, none⟩ = some (.int .u64 (vF x)) := by
  unfold RowF at h
  simpa [World.cell?, h] using cellsF_get hx
theorem RowF.free (h : RowF w g xs) (k : Nat) : w.frozen? ⟨g, k, none⟩ = false := by
  unfold RowF at h
  simp [World.frozen?, h]
theorem RowF.set (h : RowF w g xs) (i : Nat) (x : F) : RowF (w.setCell ⟨g, i, none⟩ (.int .u64 (vF x))) g (xs.set i x) := by
  have h1 := heap_setCell_at (i := i) h (.int .u64 (vF x))
  unfold RowF
  rw [h1]
  unfold cellsF
  rw [List.map_set]
  simp
theorem RowF.far (h : RowF w g xs) {a : Addr} (x : Value) (e : g ≠ a.block) : RowF (w.setCell a x) g xs := (Below.heap_setCell w a x g e).trans h
theorem RowF.sub (h : RowF w g xs) {o n c : Nat} (hn : o + n ≤ xs.length) (hc : n ≤ c) (ht : c ≤ 9223372036854775807) : Sf w (some ⟨g, o, none⟩) n c ((xs.drop o).take n) := by
  refine ⟨by simp; omega, hc, ht, (fun e => by cases e), fun i z hz => ⟨_, rfl, ?_⟩⟩
  rw [List.getElem?_map] at hz
  cases hx : ((xs.drop o).take n)[i]? with
  | none => rw [hx] at hz; cases hz
  | some x =>
    rw [hx] at hz
    injection hz with hz
    subst hz
    have hi := (List.getElem?_eq_some_iff.1 hx).1
    rw [List.getElem?_take_of_lt (by simp at hi; omega), List.getElem?_drop] at hx
    rw [Addr.add_lit]
    exact h.at_ hx
theorem RowF.sl {n c : Nat} (h : RowF w g xs) (hn : n = xs.length) (hc : n ≤ c) (ht : c ≤ 9223372036854775807) : Sf w (some ⟨g, 0, none⟩) n c xs := by
  have := h.sub (o := 0) (n := n) (by omega) hc ht
  rw [List.drop_zero, hn, List.take_length, ← hn] at this
  exact this
end
theorem u64_info : (Try.prog.info? 25).map (fun i => (i.zero, i.size, i.bytes)) = some (some (.int .u64 0), 1, 8) := by kernel_rfl
theorem cellsF_zero (n : Nat) : (madeCells #[Value.int .u64 0] (n * 1)) = (cellsF (tabF n fun _ => 0)).toArray := by
  apply Array.ext
  · rw [size_madeCells, List.size_toArray, cellsF_length, tabF_length, Nat.mul_one]
  · intro i h1 h2
    rw [size_madeCells, Nat.mul_one] at h1
    have hx := cellsF_get (tabF_get (fun _ => (0 : F)) h1)
    simp only [madeCells, Array.getElem_map, Array.getElem_range, List.getElem_toArray]
    rw [List.getElem?_eq_getElem (by rw [List.size_toArray] at h2; exact h2)] at hx
    injection hx with hx
    rw [hx]
    simp [Nat.mod_one, vF_zero]
theorem run_makeF (n : Nat) (hn : n ≤ 70000) (w : World) : (Instr.makeSlice 83 (.int .i64 (n : Int)) (.int .i64 (n : Int))).run Try.prog w = .ok (.slice (some ⟨w.heap.size, 0, none⟩) n n) (w.alloc (.cells (cellsF (tabF n fun _ => 0)).toArray 25)) := by
  obtain ⟨i, hi, hz, hs, hb⟩ := info_parts u64_info
  have h1 : (i.bytes : Int) * (n : Int) ≤ 281474976710656 := by
    rw [hb]
    omega
  have hr := run_make (P := Try.prog) w 83 25 i (.int .u64 0) Try.underlying83 hi hz .i64 .i64 (n : Int) (n : Int) (by omega) (by omega) h1 (by omega)
  simp only [Int.toNat_natCast] at hr
  rw [hr, hs, ← cellsF_zero]
  rfl
theorem rowF_made (w : World) (xs : List F) : RowF (w.alloc (.cells (cellsF xs).toArray 25)) w.heap.size xs := heap_new w _

/-! ### Slices of the call's own -/
/-- a slice of the call's own that holds xs -/
def OwF (w : World) (base : Nat) (v : Value) (n : Nat) (xs : List F) : Prop := w.ownsRow base 25 1 v n (cellsF xs)
section
variable {w w' : World} {base : Nat} {v : Value} {n : Nat} {xs : List F}
theorem OwF.keep (h : OwF w base v n xs) (hb : Below w.heap.size w w') : OwF w' base v n xs := by
  refine ⟨h.1, ?_⟩
  rcases h.2 with hn | ⟨g, cap, cur, rfl, hbs, hgg, rest⟩
  · exact .inl hn
  · exact .inr ⟨g, cap, cur, rfl, hbs, heap_keep hgg hb, rest⟩
theorem OwF.len (h : OwF w base v n xs) : n = xs.length := by
  have := h.1
  rw [cellsF_length] at this
  omega
theorem OwF.sl (h : OwF w base v n xs) : ∃ A c, v = .slice A n c ∧ Sf w A n c xs := by
  have hn := h.len
  rcases h.2 with ⟨rfl, rfl⟩ | ⟨g, cap, cur, rfl, hb, hg, hc, hm, hs, ht⟩
  · refine ⟨none, 0, rfl, ?_⟩
    have : xs = [] := List.eq_nil_of_length_eq_zero hn.symm
    subst this
    exact Sf.nil _
  · unfold maxLen at hm
    refine ⟨_, cap, rfl, by simpa using hn, hc, by omega, (fun e => by cases e), fun i z hz => ⟨_, rfl, ?_⟩⟩
    rw [List.getElem?_map] at hz
    cases hx : xs[i]? with
    | none => rw [hx] at hz; cases hz
    | some x =>
      rw [hx] at hz
      injection hz with hz
      subst hz
      have hl := (List.getElem?_eq_some_iff.1 hx).1
      have hu := cellsF_get hx
      rw [← ht, List.getElem?_take_of_lt (by omega)] at hu
      rw [ad_base]
      simpa [World.cell?, hg] using hu
theorem OwF.made (w : World) (base : Nat) (hb : base ≤ w.heap.size) : OwF (w.alloc (.cells #[] 25)) base (.slice (some ⟨w.heap.size, 0, none⟩) 0 0) 0 [] := World.ownsRow_made w #[] 0 hb (Nat.zero_le _) rfl
theorem OwF.below (h : OwF w base v n xs) (hg : w.grownBy w' v.ownBlock) (hbase : base ≤ w.heap.size) : Below base w w' :=
  ⟨hg.os, hg.tape, hg.output, hg.size, fun k hk => hg.block k (by omega) (fun e => by have := (World.ownsRow.lt h k e.symm).1; omega)⟩
end
/-- append(s, y), y in a block of its own -/
theorem wpList_appendF {ops : Array Oper} {rest : List Oper} {o : Oper} {a : Act} {Q : Exit → Act → World → Prop} {w : World} (hgd : o.guard = none) (s x : Operand)
    (ho : o.op = .call { callee := .builtin .append, args := #[s, x], argTypes := #[83, 83] }) (base : Nat) (v : Value) (n : Nat) (xs : List F) (hs : a.eval s = v) (hown : OwF w base v n xs)
    (g c : Nat) (y : F) (hx : a.eval x = .slice (some ⟨g, 0, none⟩) 1 c) (hy : One w g 25 (.int .u64 (vF y))) (hn : n ≤ 70000) (hbase : base ≤ w.heap.size)
    (h : ∀ v' w', OwF w' base v' (n + 1) (xs ++ [y]) → Below base w w' → wpList Try.prog ops Q rest (a.put o.dst v') w') : wpList Try.prog ops Q (o :: rest) a w := by
  obtain ⟨i, hi, hz, hs2, hb⟩ := info_parts u64_info
  refine wpList_append_own w hgd s x 83 ho base 25 i (.int .u64 0) 1 8 Try.underlying83 hi hz hs2 hb rfl (by omega) v n (cellsF xs) hs hown ⟨g, 0, none⟩ 1 c [.int .u64 (vF y)] hx rfl ?_ ?_ ?_ ?_ hbase ?_
  · intro j u hj
    rw [ad_base]
    match j, hj with
    | 0, hj => injection hj with hj; subst hj; exact hy.c
    | j + 1, hj => simp at hj
  · intro u hu
    simp at hu
    subst hu
    rfl
  · unfold maxLen; omega
  · omega
  · intro v' w' hown' hg _
    refine h v' w' ?_ (OwF.below hown hg hbase)
    unfold OwF
    rw [cellsF_append]
    exact hown'
/-- append(s, t...), t a slice -/
theorem wpList_appendFs {ops : Array Oper} {rest : List Oper} {o : Oper} {a : Act} {Q : Exit → Act → World → Prop} {w : World} (hgd : o.guard = none) (s x : Operand)
    (ho : o.op = .call { callee := .builtin .append, args := #[s, x], argTypes := #[83, 83] }) (base : Nat) (v : Value) (n : Nat) (xs : List F) (hs : a.eval s = v) (hown : OwF w base v n xs)
    (ad : Addr) (m c : Nat) (ys : List F) (hx : a.eval x = .slice (some ad) m c) (hy : Sf w (some ad) m c ys) (hn : n + m ≤ 70000) (hbase : base ≤ w.heap.size)
    (h : ∀ v' w', OwF w' base v' (n + m) (xs ++ ys) → Below base w w' → wpList Try.prog ops Q rest (a.put o.dst v') w') : wpList Try.prog ops Q (o :: rest) a w := by
  obtain ⟨i, hi, hz, hs2, hb⟩ := info_parts u64_info
  refine wpList_append_own w hgd s x 83 ho base 25 i (.int .u64 0) 1 8 Try.underlying83 hi hz hs2 hb rfl (by omega) v n (cellsF xs) hs hown ad m c (cellsF ys) hx (by rw [cellsF_length, ← hy.len, Nat.mul_one]) ?_ (fun u hu => cellsF_one hu) ?_ ?_ hbase ?_
  · intro j u hj
    have hl := (List.getElem?_eq_some_iff.1 hj).1
    rw [cellsF_length] at hl
    obtain ⟨q, hq⟩ := hy.get (show j < m by rw [hy.len]; omega)
    obtain ⟨ad', e, h0⟩ := hy.at_ hq
    injection e with e
    subst e
    rw [cellsF_get hq] at hj
    injection hj with hj
    subst hj
    exact h0
  · unfold maxLen; omega
  · omega
  · intro v' w' hown' hg _
    refine h v' w' ?_ (OwF.below hown hg hbase)
    unfold OwF
    rw [cellsF_append]
    exact hown'

end Go.Proofs.Ytipbfonlcmegdaa
