/- Slices of bytes: what they read as, what keeps them; blocks of bytes, made, written and read; slices of bytes of the call's own that grow; no conditions but lengths. -/
import Derived.Test.YtliflbelhogopaaDoorSha7
import Derived.Laws.MakeOwn
import Derived.Laws.AppendOwn
import Derived.Laws.OwnMore
import Derived.Laws.AppendOwnNone
import Derived.ArgAppend
import Derived.OwnWalk
namespace Go.Proofs.YtliflbelhogopaaDoor
set_option maxRecDepth 8000
open Go.RowKit

theorem ad_base (g k : Nat) : (⟨g, 0, none⟩ : Addr).add k = ⟨g, k, none⟩ := by rw [Addr.add_lit, Nat.zero_add]
/-- a slice value that reads as the bytes bs -/
structure Sb (w : World) (A : Option Addr) (n c : Nat) (bs : List Nat) : Prop where
  len : n = bs.length
  cap : n ≤ c
  top : c ≤ 9223372036854775807
  nil : A = none → c = 0
  byte : ∀ x ∈ bs, x < 256
  cells : ∀ (i z : Nat), bs[i]? = some z → ∃ ad, A = some ad ∧ w.cell? (ad.add i) = some (.int .u8 (z : Int))
section
variable {w w' : World} {A : Option Addr} {n c : Nat} {bs : List Nat}
theorem Sb.keep (h : Sb w A n c bs) (hb : Below w.heap.size w w') : Sb w' A n c bs :=
  ⟨h.len, h.cap, h.top, h.nil, h.byte, fun i z hz => by obtain ⟨ad, e, hc⟩ := h.cells i z hz; exact ⟨ad, e, cell_keep hc hb⟩⟩
theorem Sb.drew (h : Sb w A n c bs) : Sb w.drew A n c bs := h.keep (Below.refl _ _).drew
theorem Sb.get {i : Nat} (h : Sb w A n c bs) (hi : i < n) : bs[i]? = some (bs.getD i 0) := by
  rw [List.getD_eq_getElem?_getD, List.getElem?_eq_getElem (by have := h.len; omega)]; rfl
theorem Sb.at_ {ad : Addr} (h : Sb w (some ad) n c bs) {i : Nat} (hi : i < n) : w.cell? (ad.add i) = some (.int .u8 (bs.getD i 0 : Nat)) := by
  obtain ⟨ad', e, hc⟩ := h.cells i _ (h.get hi)
  injection e with e
  subst e
  exact hc
theorem Sb.some_ (h : Sb w A n c bs) (hn : 0 < n) : ∃ ad, A = some ad := by
  obtain ⟨ad, e, _⟩ := h.cells 0 _ (h.get hn)
  exact ⟨ad, e⟩
theorem Sb.nil_ (w : World) : Sb w none 0 0 [] := ⟨rfl, Nat.le_refl _, Nat.zero_le _, fun _ => rfl, (fun _ h => by cases h), fun i z hz => by simp at hz⟩
theorem Sb.cut {k d : Nat} (h : Sb w A n c bs) (hk : k ≤ n) (hd : k ≤ d) (hc : d ≤ c) (h0 : A = none → d = 0) : Sb w A k d (bs.take k) := by
  refine ⟨by have := h.len; simp; omega, hd, by have := h.top; omega, h0, fun x hx => h.byte x (List.mem_of_mem_take hx), fun i z hz => h.cells i z ?_⟩
  have hl := (List.getElem?_eq_some_iff.1 hz).1
  rw [List.getElem?_take_of_lt (by simp at hl; omega)] at hz
  exact hz
theorem Sb.take {k : Nat} (h : Sb w A n c bs) (hk : k ≤ n) : Sb w A k c (bs.take k) := h.cut hk (by have := h.cap; omega) (Nat.le_refl _) h.nil
theorem Sb.drop {k : Nat} {ad : Addr} (h : Sb w (some ad) n c bs) (hk : k ≤ n) : Sb w (some (if c = k then ad else ad.add k)) (n - k) (c - k) (bs.drop k) := by
  have hl := h.len
  have hcp := h.cap
  refine ⟨by simp; omega, by omega, by have := h.top; omega, (fun e => by cases e), fun x hx => h.byte x (List.mem_of_mem_drop hx), fun i z hz => ⟨_, rfl, ?_⟩⟩
  have hi := (List.getElem?_eq_some_iff.1 hz).1
  simp at hi
  rw [if_neg (by omega), ad_add]
  rw [List.getElem?_drop] at hz
  obtain ⟨ad', e, hc⟩ := h.cells _ _ hz
  injection e with e
  subst e
  exact hc
theorem Sb.cast {cs : List Nat} (h : Sb w A n c bs) (e : bs = cs) : Sb w A n c cs := e ▸ h
theorem getD_byte {l : List Nat} (h : ∀ x ∈ l, x < 256) (i : Nat) : l.getD i 0 < 256 := by
  rw [List.getD_eq_getElem?_getD]
  cases hx : l[i]? with
  | none => decide
  | some x => exact h x (List.mem_of_getElem? hx)
/-- a slice of 64 bytes is a block -/
theorem Sb.blk {ad : Addr} (h : Sb w (some ad) n c bs) (hn : 64 ≤ n) : Blk w ad (fun i => bs.getD i 0) := ⟨fun i => getD_byte h.byte i, fun i hi => h.at_ (by omega)⟩
end
theorem celB_append (xs ys : List Nat) : celB (xs ++ ys) = celB xs ++ celB ys := by unfold celB; simp
theorem celB_one' {xs : List Nat} {u : Value} (h : u ∈ celB xs) : u.oneCell' = true := by
  unfold celB at h
  rw [List.mem_map] at h
  obtain ⟨x, _, rfl⟩ := h
  rfl
theorem RowB.sub {w : World} {t g : Nat} {bs : List Nat} (h : RowB w t g bs) (hbt : ∀ x ∈ bs, x < 256) {o n c : Nat} (hn : o + n ≤ bs.length) (hc : n ≤ c) (ht : c ≤ 9223372036854775807) : Sb w (some ⟨g, o, none⟩) n c ((bs.drop o).take n) := by
  refine ⟨by simp; omega, hc, ht, (fun e => by cases e), fun x hx => hbt x (List.mem_of_mem_drop (List.mem_of_mem_take hx)), fun i z hz => ⟨_, rfl, ?_⟩⟩
  have hi := (List.getElem?_eq_some_iff.1 hz).1
  rw [List.getElem?_take_of_lt (by simp at hi; omega), List.getElem?_drop] at hz
  rw [Addr.add_lit]
  exact h.at_ hz
theorem RowB.sl {w : World} {t g : Nat} {bs : List Nat} (h : RowB w t g bs) (hbt : ∀ x ∈ bs, x < 256) {n c : Nat} (hn : n ≤ bs.length) (hc : n ≤ c) (ht : c ≤ 9223372036854775807) : Sb w (some ⟨g, 0, none⟩) n c (bs.take n) := by
  have := h.sub hbt (o := 0) (n := n) (by omega) hc ht
  rwa [List.drop_zero] at this
theorem RowB.all {w : World} {t g : Nat} {bs : List Nat} (h : RowB w t g bs) (hbt : ∀ x ∈ bs, x < 256) {n c : Nat} (hn : n = bs.length) (hc : n ≤ c) (ht : c ≤ 9223372036854775807) : Sb w (some ⟨g, 0, none⟩) n c bs := by
  have := h.sl hbt (n := n) (c := c) (by omega) hc ht
  rwa [hn, List.take_length, ← hn] at this

theorem u8_info : (Tryd.prog.info? 5).map (fun i => (i.zero, i.size, i.bytes)) = some (some (.int .u8 0), 1, 1) := by kernel_rfl
theorem celB_zero (n : Nat) : (madeCells #[Value.int .u8 0] (n * 1)) = (celB (List.replicate n 0)).toArray := by
  apply Array.ext
  · rw [size_madeCells, List.size_toArray, celB_length, List.length_replicate, Nat.mul_one]
  · intro i h1 h2
    rw [size_madeCells, Nat.mul_one] at h1
    simp [madeCells, celB, Nat.mod_one]
theorem run_makeB (n m : Nat) (hn : n ≤ m) (hm : m ≤ 70000) (w : World) : (Instr.makeSlice 22 (.int .i64 (n : Int)) (.int .i64 (m : Int))).run Tryd.prog w = .ok (.slice (some ⟨w.heap.size, 0, none⟩) n m) (w.alloc (.cells (celB (List.replicate m 0)).toArray 5)) := by
  obtain ⟨i, hi, hz, hs, hb⟩ := info_parts u8_info
  have h1 : (i.bytes : Int) * (m : Int) ≤ 281474976710656 := by
    rw [hb]
    omega
  have hr := run_make (P := Tryd.prog) w 22 5 i (.int .u8 0) Tryd.underlying22 hi hz .i64 .i64 (n : Int) (m : Int) (by omega) (by omega) h1 (by omega)
  simp only [Int.toNat_natCast] at hr
  rw [hr, hs, ← celB_zero]
  rfl

/-! ### Slices of the call's own -/
/-- a slice of the call's own that holds bs -/
def OwB (w : World) (base : Nat) (v : Value) (n : Nat) (bs : List Nat) : Prop := w.ownsRow base 5 1 v n (celB bs) ∧ ∀ x ∈ bs, x < 256
section
variable {w w' : World} {base : Nat} {v : Value} {n : Nat} {bs : List Nat}
theorem OwB.keep (h : OwB w base v n bs) (hb : Below w.heap.size w w') : OwB w' base v n bs := by
  refine ⟨⟨h.1.1, ?_⟩, h.2⟩
  rcases h.1.2 with hn | ⟨g, cap, cur, rfl, hbs, hgg, rest⟩
  · exact .inl hn
  · exact .inr ⟨g, cap, cur, rfl, hbs, heap_keep hgg hb, rest⟩
theorem OwB.len (h : OwB w base v n bs) : n = bs.length := by
  have := h.1.1
  rw [celB_length] at this
  omega
theorem OwB.sl (h : OwB w base v n bs) : ∃ A c, v = .slice A n c ∧ Sb w A n c bs := by
  have hn := h.len
  rcases h.1.2 with ⟨rfl, rfl⟩ | ⟨g, cap, cur, rfl, hb, hg, hc, hm, hs, ht⟩
  · refine ⟨none, 0, rfl, ?_⟩
    have : bs = [] := List.eq_nil_of_length_eq_zero hn.symm
    subst this
    exact Sb.nil_ _
  · unfold maxLen at hm
    refine ⟨_, cap, rfl, hn, hc, by omega, (fun e => by cases e), h.2, fun i x hx => ⟨_, rfl, ?_⟩⟩
    have hl := (List.getElem?_eq_some_iff.1 hx).1
    have hu := celB_get hx
    rw [← ht, List.getElem?_take_of_lt (by omega)] at hu
    rw [ad_base]
    simpa [World.cell?, hg] using hu
theorem OwB.sl' {A : Option Addr} {c : Nat} (h : OwB w base (.slice A n c) n bs) : Sb w A n c bs := by
  obtain ⟨A1, c1, e, hs⟩ := h.sl
  injection e with e1 e2 e3
  subst e1
  subst e3
  exact hs
theorem OwB.made (w : World) (base : Nat) (hb : base ≤ w.heap.size) : OwB (w.alloc (.cells #[] 5)) base (.slice (some ⟨w.heap.size, 0, none⟩) 0 0) 0 [] := ⟨World.ownsRow_made w #[] 0 hb (Nat.zero_le _) rfl, fun _ h => by cases h⟩
theorem OwB.below (h : OwB w base v n bs) (hg : w.grownBy w' v.ownBlock) (hbase : base ≤ w.heap.size) : Below base w w' :=
  ⟨hg.os, hg.tape, hg.output, hg.size, fun k hk => hg.block k (by omega) (fun e => by have := (World.ownsRow.lt h.1 k e.symm).1; omega)⟩
end
/-- append(s, y), y in a block of its own -/
theorem wpList_appendB {ops : Array Oper} {rest : List Oper} {o : Oper} {a : Act} {Q : Exit → Act → World → Prop} {w : World} (hgd : o.guard = none) (s x : Operand)
    (ho : o.op = .call { callee := .builtin .append, args := #[s, x], argTypes := #[22, 22] }) (base : Nat) (v : Value) (n : Nat) (bs : List Nat) (hs : a.eval s = v) (hown : OwB w base v n bs)
    (g c : Nat) (y : Nat) (hx : a.eval x = .slice (some ⟨g, 0, none⟩) 1 c) (hy : One w g 5 (.int .u8 (y : Int))) (hy2 : y < 256) (hn : n ≤ 70000) (hbase : base ≤ w.heap.size)
    (h : ∀ v' w', OwB w' base v' (n + 1) (bs ++ [y]) → Below base w w' → wpList Tryd.prog ops Q rest (a.put o.dst v') w') : wpList Tryd.prog ops Q (o :: rest) a w := by
  obtain ⟨i, hi, hz, hs2, hb⟩ := info_parts u8_info
  refine wpList_append_own w hgd s x 22 ho base 5 i (.int .u8 0) 1 1 Tryd.underlying22 hi hz hs2 hb rfl (by omega) v n (celB bs) hs hown.1 ⟨g, 0, none⟩ 1 c [.int .u8 (y : Int)] hx rfl ?_ ?_ ?_ ?_ hbase ?_
  · intro j u hj
    rw [ad_base]
    match j, hj with
    | 0, hj => injection hj with hj; subst hj; exact hy.c
    | j + 1, hj => simp at hj
  · intro u hu
    simp at hu
    subst hu
    rfl
  · unfold maxLen; omega
  · omega
  · intro v' w' hown' hg _
    refine h v' w' ⟨?_, fun z hz => ?_⟩ (OwB.below hown hg hbase)
    · rw [celB_append]
      exact hown'
    · rcases List.mem_append.1 hz with hz | hz
      · exact hown.2 z hz
      · rw [List.mem_singleton.1 hz]; exact hy2
theorem celB_src {w : World} {ad : Addr} {m c : Nat} {ys : List Nat} (hy : Sb w (some ad) m c ys) : ∀ j u, (celB ys)[j]? = some u → w.cell? (ad.add j) = some u := by
  intro j u hj
  have hl := (List.getElem?_eq_some_iff.1 hj).1
  rw [celB_length] at hl
  have h0 := hy.at_ (show j < m by rw [hy.len]; exact hl)
  rw [celB_get (hy.get (show j < m by rw [hy.len]; exact hl))] at hj
  injection hj with hj
  subst hj
  exact h0
/-- append(s, t...), t a slice with an address -/
theorem wpList_appendBs {ops : Array Oper} {rest : List Oper} {o : Oper} {a : Act} {Q : Exit → Act → World → Prop} {w : World} (hgd : o.guard = none) (s x : Operand)
    (ho : o.op = .call { callee := .builtin .append, args := #[s, x], argTypes := #[22, 22] }) (base : Nat) (v : Value) (n : Nat) (bs : List Nat) (hs : a.eval s = v) (hown : OwB w base v n bs)
    (ad : Addr) (m c : Nat) (ys : List Nat) (hx : a.eval x = .slice (some ad) m c) (hy : Sb w (some ad) m c ys) (hn : n + m ≤ 70000) (hbase : base ≤ w.heap.size)
    (h : ∀ v' w', OwB w' base v' (n + m) (bs ++ ys) → Below base w w' → wpList Tryd.prog ops Q rest (a.put o.dst v') w') : wpList Tryd.prog ops Q (o :: rest) a w := by
  obtain ⟨i, hi, hz, hs2, hb⟩ := info_parts u8_info
  refine wpList_append_own w hgd s x 22 ho base 5 i (.int .u8 0) 1 1 Tryd.underlying22 hi hz hs2 hb rfl (by omega) v n (celB bs) hs hown.1 ad m c (celB ys) hx (by rw [celB_length, ← hy.len, Nat.mul_one]) (celB_src hy) (fun u hu => celB_one' hu) ?_ ?_ hbase ?_
  · unfold maxLen; omega
  · omega
  · intro v' w' hown' hg _
    refine h v' w' ⟨?_, fun z hz => ?_⟩ (OwB.below hown hg hbase)
    · rw [celB_append]
      exact hown'
    · rcases List.mem_append.1 hz with hz | hz
      · exact hown.2 z hz
      · exact hy.byte z hz
end Go.Proofs.YtliflbelhogopaaDoor
