/- Several texts in one: Sha7, Shb, Shc, Shd, Held2. -/
import Derived.Test.YtgkojdbepgonkaaDoorH02
import Derived.Laws.MakeOwn
import Derived.Laws.AppendOwn
import Derived.Laws.OwnMore
import Derived.Laws.AppendOwnNone
import Derived.ArgAppend
import Derived.OwnWalk
import Derived.Deep.Cut
import Derived.Deep.RegionWith
import Derived.Test.YtgkojdbepgonkaaDoorH01
import Derived.OrdersHeld
/- The reference's digest and the majority by 'or'. -/
namespace Go.Proofs.YtgkojdbepgonkaaDoor
set_option maxRecDepth 8000
set_option linter.unusedVariables false
set_option linter.unusedSimpArgs false
open Go.RowKit
def z32 : Array Value := (celB (List.replicate 32 0)).toArray
theorem z32_size : z32.size = 32 := by unfold z32; rw [List.size_toArray, celB_length]; simp
theorem z32_ne : z32 ≠ #[] := fun e => by have h := z32_size; rw [e] at h; simp at h
theorem z32_run (w : World) : Sem.run Tryd.prog (zeroValue 34) w = .ok (.agg z32) w := Tryd.zeroValue34 w
/-- the majority of three bits, by 'or' and by 'xor' -/
theorem maj_or (a b c : Nat) : a &&& b ||| a &&& c ||| b &&& c = majN a b c := by
  unfold majN
  apply Nat.eq_of_testBit_eq
  intro i
  simp only [Nat.testBit_or, Nat.testBit_and, Nat.testBit_xor]
  cases a.testBit i <;> cases b.testBit i <;> cases c.testBit i <;> rfl
theorem maj_val_or {a b c : Nat} (ha : a < 4294967296) (hb : b < 4294967296) (hc : c < 4294967296) :
    bits .or .u32 (bits .or .u32 (bits .and .u32 (a : Int) (b : Int)) (bits .and .u32 (a : Int) (c : Int))) (bits .and .u32 (b : Int) (c : Int)) = ((majN a b c : Nat) : Int) := by
  rw [and32 _ _ ha hb, and32 _ _ ha hc, and32 _ _ hb hc, or32 _ _ (and_lt hb) (and_lt hc), or32 _ _ (or_lt (and_lt hb) (and_lt hc)) (and_lt hc), maj_or]
theorem chs_val {e f g : Nat} (he : e < 4294967296) (hf : f < 4294967296) (hg : g < 4294967296) :
    bits .xor .u32 (bits .and .u32 (e : Int) (f : Int)) (bits .and .u32 (4294967295 - (e : Int)) (g : Int)) = ((chN e f g : Nat) : Int) := by
  rw [show (4294967295 : Int) - (e : Int) = ((4294967295 - e : Nat) : Int) by omega, and32 _ _ he hf, and32 _ _ (by omega) hg, xor32 _ _ (and_lt hf) (and_lt hg)]
  rfl
attribute [local simp] z32_ne z32_run
attribute [-simp] Tryd.zeroValue34 Tryd.isAgg34 Tryd.sizeOf34
set_option maxHeartbeats 1000000 in
theorem rdigest_any (s : Ch) (w : World) (hs : s.Ok) :
    Calls Tryd.prog 88 #[.agg (celW (chL s)).toArray] w fun e w' => e = .returned (.agg (celB (digN s 32)).toArray) ∧ Below w.heap.size w w' := by
  go_enter Tryd.func88, Tryd.ntmps88
  go_wp2_with fail
  have hsc := run_storeCells_new (P := Tryd.prog) ((w.alloc (.cells (celW (chL s)).toArray 127)).alloc (.cells z32 34)) 34 z32 z32 (by rw [z32_size]; kernel_rfl) rfl celB_one
  rw [alloc_sz, alloc_sz] at hsc
  simp only [Tryd.sizeOf34, Result.andThen, ↓reduceIte, hsc, z32_size]
  rw [Oper.upon_skip]
  clear hsc
  go_wp2_with fail
  refine wp_named3 (fun w1 hb1 g0 g1 g2 hlt1 => ?_)
  have HR0 := Lib.hid (show RowW w1 127 w.heap.size (chL s) from g0)
  have hr1 : RowB w1 34 (w.heap.size + 1) (List.replicate 32 0) := g1
  have hr2 : RowB w1 34 (w.heap.size + 1 + 1) (List.replicate 32 0) := g2
  have HR1 := Lib.hid hr1
  have HR2 := Lib.hid hr2
  have HB1 := Lib.hid hb1
  clear g0 g1 g2 hlt1 hr1 hr2 hb1
  have HL := Lib.hid (chL_lt hs)
  go_loopw [4] (fun s0 wr => ∃ i : Nat, i ≤ 32 ∧ s0 = .int .i64 i ∧ RowW wr 127 w.heap.size (chL s) ∧ RowB wr 34 (w.heap.size + 1) (List.replicate 32 0) ∧ RowB wr 34 (w.heap.size + 1 + 1) (digN s i ++ List.replicate (32 - i) 0) ∧ Below w.heap.size w wr) (fun s0 _ => 32 - (intOf s0).toNat)
  case atStart => exact ⟨0, by omega, rfl, HR0.out, HR1.out, HR2.out, HB1.out⟩
  case round =>
    clear HR0 HR1 HR2 HB1
    obtain ⟨i, hi, rfl, hr0, hr1, hr2, hb⟩ := hrel
    have HR0 := Lib.hid hr0
    have HR1 := Lib.hid hr1
    have HR2 := Lib.hid hr2
    have HB := Lib.hid hb
    clear hr0 hr1 hr2 hb
    by_cases hlt : i < 32
    · have hk1 : (i : Int) < 32 := by omega
      have hk0 : (0 : Int) ≤ (i : Int) := by omega
      have c0 := HR0.out.at_ (i := i / 4) (x := (chL s).getD (i / 4) 0) (by rw [List.getD_eq_getElem?_getD, List.getElem?_eq_getElem (by rw [chL_length]; omega)]; rfl)
      have hx := getD_lt HL.out (i / 4)
      have hdg := digN_succ s i
      generalize (chL s).getD (i / 4) 0 = x at *
      have HDG := Lib.hid hdg
      have HX := Lib.hid hx
      clear hdg hx
      have b0 := HR2.out.at_ (i := i) (x := 0) (get_zero (digN_length s i) hlt)
      have b1 := HR2.out.free i
      have e0 : (0 : Int) ≤ (i : Int) / 4 := by omega
      have e1 : (i : Int) / 4 < 8 := by omega
      have e2 : ((i : Int) / 4).toNat = i / 4 := by omega
      have e3 : (0 : Int) ≤ 24 - (i : Int) % 4 * 8 := by omega
      have e4 : (24 - (i : Int) % 4 * 8).toNat = 24 - i % 4 * 8 := by omega
      have e5 : min (24 - i % 4 * 8) 32 = 24 - i % 4 * 8 := by omega
      go_wp2_with fail
      go_roundw
      case rel =>
        refine ⟨i + 1, by omega, by go_num, HR0.out.far _ (by simp; omega), HR1.out.far _ (by simp), ?_, HB.out.setCell (by simp; omega) _⟩
        rw [HDG.out, ← set_midB _ (digN_length s i) (by omega)]
        refine HR2.out.put i _ _ ?_
        rw [Int.natCast_emod, Int.natCast_ediv, Int.natCast_pow, Nat.mul_comm 8]
        rfl
      case measure => simp [intOf]; omega
    · have hkn : i = 32 := by omega
      subst hkn
      have hld := run_loadB (P := Tryd.prog) HR2.out 32 (by simp [digN_length])
      have hsz : (celB (digN s 32)).length = 32 := by rw [celB_length, digN_length]
      have hsc := run_storeB (P := Tryd.prog) (ws := digN s 32) HR1.out (by simp [digN_length])
      go_wp2_with fail
      simp only [Tryd.isAgg34, Tryd.sizeOf34, Result.andThen, ↓reduceIte, hld]
      rw [Oper.upon_value]
      go_wp2_with fail
      simp only [Tryd.sizeOf34, Result.andThen, ↓reduceIte, hsc]
      rw [Oper.upon_skip]
      go_wp2_with fail
      refine bodyPost_ret (v := .agg (celB (digN s 32)).toArray) ?_ rfl ⟨rfl, bel_setRow HB.out (by omega) _⟩
      exact results_cell_row rfl _ _ (w.heap.size + 1) 34 _ (0, 0) _ rfl (HR1.out.row (digN s 32)) Tryd.underlying34 rfl (by rw [show (celB (digN s 32)).toArray.size = 32 by simp [hsz]]; kernel_rfl)
end Go.Proofs.YtgkojdbepgonkaaDoor

/- Slices of bytes: what they read as, what keeps them; blocks of bytes, made, written and read; slices of bytes of the call's own that grow; no conditions but lengths. -/
namespace Go.Proofs.YtgkojdbepgonkaaDoor
set_option linter.unusedVariables false
set_option linter.unusedSimpArgs false
set_option maxRecDepth 8000
open Go.RowKit

theorem ad_base (g k : Nat) : (⟨g, 0, none⟩ : Addr).add k = ⟨g, k, none⟩ := by rw [Addr.add_lit, Nat.zero_add]
/-- a slice value that reads as the bytes bs -/
structure Sb (w : World) (A : Option Addr) (n c : Nat) (bs : List Nat) : Prop where
  len : n = bs.length
  cap : n ≤ c
  top : c ≤ 9223372036854775807
  nil : A = none → c = 0
  byte : ∀ x ∈ bs, x < 256
  cells : ∀ (i z : Nat), bs[i]? = some z → ∃ ad, A = some ad ∧ w.cell? (ad.add i) = some (.int .u8 (z : Int))
section
variable {w w' : World} {A : Option Addr} {n c : Nat} {bs : List Nat}
theorem Sb.keep (h : Sb w A n c bs) (hb : Below w.heap.size w w') : Sb w' A n c bs :=
  ⟨h.len, h.cap, h.top, h.nil, h.byte, fun i z hz => by obtain ⟨ad, e, hc⟩ := h.cells i z hz; exact ⟨ad, e, cell_keep hc hb⟩⟩
theorem Sb.drew (h : Sb w A n c bs) : Sb w.drew A n c bs := h.keep (Below.refl _ _).drew
theorem Sb.get {i : Nat} (h : Sb w A n c bs) (hi : i < n) : bs[i]? = some (bs.getD i 0) := by
  rw [List.getD_eq_getElem?_getD, List.getElem?_eq_getElem (by have := h.len; omega)]; rfl
theorem Sb.at_ {ad : Addr} (h : Sb w (some ad) n c bs) {i : Nat} (hi : i < n) : w.cell? (ad.add i) = some (.int .u8 (bs.getD i 0 : Nat)) := by
  obtain ⟨ad', e, hc⟩ := h.cells i _ (h.get hi)
  injection e with e
  subst e
  exact hc
theorem Sb.some_ (h : Sb w A n c bs) (hn : 0 < n) : ∃ ad, A = some ad := by
  obtain ⟨ad, e, _⟩ := h.cells 0 _ (h.get hn)
  exact ⟨ad, e⟩
theorem Sb.nil_ (w : World) : Sb w none 0 0 [] := ⟨rfl, Nat.le_refl _, Nat.zero_le _, fun _ => rfl, (fun _ h => by cases h), fun i z hz => by simp at hz⟩
theorem Sb.cut {k d : Nat} (h : Sb w A n c bs) (hk : k ≤ n) (hd : k ≤ d) (hc : d ≤ c) (h0 : A = none → d = 0) : Sb w A k d (bs.take k) := by
  refine ⟨by have := h.len; simp; omega, hd, by have := h.top; omega, h0, fun x hx => h.byte x (List.mem_of_mem_take hx), fun i z hz => h.cells i z ?_⟩
  have hl := (List.getElem?_eq_some_iff.1 hz).1
  rw [List.getElem?_take_of_lt (by simp at hl; omega)] at hz
  exact hz
theorem Sb.take {k : Nat} (h : Sb w A n c bs) (hk : k ≤ n) : Sb w A k c (bs.take k) := h.cut hk (by have := h.cap; omega) (Nat.le_refl _) h.nil
theorem Sb.drop {k : Nat} {ad : Addr} (h : Sb w (some ad) n c bs) (hk : k ≤ n) : Sb w (some (if c = k then ad else ad.add k)) (n - k) (c - k) (bs.drop k) := by
  have hl := h.len
  have hcp := h.cap
  refine ⟨by simp; omega, by omega, by have := h.top; omega, (fun e => by cases e), fun x hx => h.byte x (List.mem_of_mem_drop hx), fun i z hz => ⟨_, rfl, ?_⟩⟩
  have hi := (List.getElem?_eq_some_iff.1 hz).1
  simp at hi
  rw [if_neg (by omega), ad_add]
  rw [List.getElem?_drop] at hz
  obtain ⟨ad', e, hc⟩ := h.cells _ _ hz
  injection e with e
  subst e
  exact hc
theorem Sb.cast {cs : List Nat} (h : Sb w A n c bs) (e : bs = cs) : Sb w A n c cs := e ▸ h
theorem getD_byte {l : List Nat} (h : ∀ x ∈ l, x < 256) (i : Nat) : l.getD i 0 < 256 := by
  rw [List.getD_eq_getElem?_getD]
  cases hx : l[i]? with
  | none => decide
  | some x => exact h x (List.mem_of_getElem? hx)
/-- a slice of 64 bytes is a block -/
theorem Sb.blk {ad : Addr} (h : Sb w (some ad) n c bs) (hn : 64 ≤ n) : Blk w ad (fun i => bs.getD i 0) := ⟨fun i => getD_byte h.byte i, fun i hi => h.at_ (by omega)⟩
end
theorem celB_append (xs ys : List Nat) : celB (xs ++ ys) = celB xs ++ celB ys := by unfold celB; simp
theorem celB_one' {xs : List Nat} {u : Value} (h : u ∈ celB xs) : u.oneCell' = true := by
  unfold celB at h
  rw [List.mem_map] at h
  obtain ⟨x, _, rfl⟩ := h
  rfl
theorem RowB.sub {w : World} {t g : Nat} {bs : List Nat} (h : RowB w t g bs) (hbt : ∀ x ∈ bs, x < 256) {o n c : Nat} (hn : o + n ≤ bs.length) (hc : n ≤ c) (ht : c ≤ 9223372036854775807) : Sb w (some ⟨g, o, none⟩) n c ((bs.drop o).take n) := by
  refine ⟨by simp; omega, hc, ht, (fun e => by cases e), fun x hx => hbt x (List.mem_of_mem_drop (List.mem_of_mem_take hx)), fun i z hz => ⟨_, rfl, ?_⟩⟩
  have hi := (List.getElem?_eq_some_iff.1 hz).1
  rw [List.getElem?_take_of_lt (by simp at hi; omega), List.getElem?_drop] at hz
  rw [Addr.add_lit]
  exact h.at_ hz
theorem RowB.sl {w : World} {t g : Nat} {bs : List Nat} (h : RowB w t g bs) (hbt : ∀ x ∈ bs, x < 256) {n c : Nat} (hn : n ≤ bs.length) (hc : n ≤ c) (ht : c ≤ 9223372036854775807) : Sb w (some ⟨g, 0, none⟩) n c (bs.take n) := by
  have := h.sub hbt (o := 0) (n := n) (by omega) hc ht
  rwa [List.drop_zero] at this
theorem RowB.all {w : World} {t g : Nat} {bs : List Nat} (h : RowB w t g bs) (hbt : ∀ x ∈ bs, x < 256) {n c : Nat} (hn : n = bs.length) (hc : n ≤ c) (ht : c ≤ 9223372036854775807) : Sb w (some ⟨g, 0, none⟩) n c bs := by
  have := h.sl hbt (n := n) (c := c) (by omega) hc ht
  rwa [hn, List.take_length, ← hn] at this

theorem u8_info : (Tryd.prog.info? 5).map (fun i => (i.zero, i.size, i.bytes)) = some (some (.int .u8 0), 1, 1) := by kernel_rfl
theorem celB_zero (n : Nat) : (madeCells #[Value.int .u8 0] (n * 1)) = (celB (List.replicate n 0)).toArray := by
  apply Array.ext
  · rw [size_madeCells, List.size_toArray, celB_length, List.length_replicate, Nat.mul_one]
  · intro i h1 h2
    rw [size_madeCells, Nat.mul_one] at h1
    simp [madeCells, celB, Nat.mod_one]
theorem run_makeB (n m : Nat) (hn : n ≤ m) (hm : m ≤ 140737488353000) (w : World) : (Instr.makeSlice 29 (.int .i64 (n : Int)) (.int .i64 (m : Int))).run Tryd.prog w = .ok (.slice (some ⟨w.heap.size, 0, none⟩) n m) (w.alloc (.cells (celB (List.replicate m 0)).toArray 5)) := by
  obtain ⟨i, hi, hz, hs, hb⟩ := info_parts u8_info
  have h1 : (i.bytes : Int) * (m : Int) ≤ 281474976710656 := by
    rw [hb]
    omega
  have hr := run_make (P := Tryd.prog) w 29 5 i (.int .u8 0) Tryd.underlying29 hi hz .i64 .i64 (n : Int) (m : Int) (by omega) (by omega) h1 (by omega)
  simp only [Int.toNat_natCast] at hr
  rw [hr, hs, ← celB_zero]
  rfl

/-! ### Slices of the call's own -/
/-- a slice of the call's own that holds bs -/
def OwB (w : World) (base : Nat) (v : Value) (n : Nat) (bs : List Nat) : Prop := w.ownsRow base 5 1 v n (celB bs) ∧ ∀ x ∈ bs, x < 256
section
variable {w w' : World} {base : Nat} {v : Value} {n : Nat} {bs : List Nat}
theorem OwB.keep (h : OwB w base v n bs) (hb : Below w.heap.size w w') : OwB w' base v n bs := by
  refine ⟨⟨h.1.1, ?_⟩, h.2⟩
  rcases h.1.2 with hn | ⟨g, cap, cur, rfl, hbs, hgg, rest⟩
  · exact .inl hn
  · exact .inr ⟨g, cap, cur, rfl, hbs, heap_keep hgg hb, rest⟩
theorem OwB.len (h : OwB w base v n bs) : n = bs.length := by
  have := h.1.1
  rw [celB_length] at this
  omega
theorem OwB.sl (h : OwB w base v n bs) : ∃ A c, v = .slice A n c ∧ Sb w A n c bs := by
  have hn := h.len
  rcases h.1.2 with ⟨rfl, rfl⟩ | ⟨g, cap, cur, rfl, hb, hg, hc, hm, hs, ht⟩
  · refine ⟨none, 0, rfl, ?_⟩
    have : bs = [] := List.eq_nil_of_length_eq_zero hn.symm
    subst this
    exact Sb.nil_ _
  · unfold maxLen at hm
    refine ⟨_, cap, rfl, hn, hc, by omega, (fun e => by cases e), h.2, fun i x hx => ⟨_, rfl, ?_⟩⟩
    have hl := (List.getElem?_eq_some_iff.1 hx).1
    have hu := celB_get hx
    rw [← ht, List.getElem?_take_of_lt (by omega)] at hu
    rw [ad_base]
    simpa [World.cell?, hg] using hu
theorem OwB.sl' {A : Option Addr} {c : Nat} (h : OwB w base (.slice A n c) n bs) : Sb w A n c bs := by
  obtain ⟨A1, c1, e, hs⟩ := h.sl
  injection e with e1 e2 e3
  subst e1
  subst e3
  exact hs
theorem OwB.made (w : World) (base : Nat) (hb : base ≤ w.heap.size) : OwB (w.alloc (.cells #[] 5)) base (.slice (some ⟨w.heap.size, 0, none⟩) 0 0) 0 [] := ⟨World.ownsRow_made w #[] 0 hb (Nat.zero_le _) rfl, fun _ h => by cases h⟩
theorem OwB.below (h : OwB w base v n bs) (hg : w.grownBy w' v.ownBlock) (hbase : base ≤ w.heap.size) : Below base w w' :=
  ⟨hg.os, hg.tape, hg.output, hg.size, fun k hk => hg.block k (by omega) (fun e => by have := (World.ownsRow.lt h.1 k e.symm).1; omega)⟩
end
/-- append(s, y), y in a block of its own -/
theorem wpList_appendB {ops : Array Oper} {rest : List Oper} {o : Oper} {a : Act} {Q : Exit → Act → World → Prop} {w : World} (hgd : o.guard = none) (s x : Operand)
    (ho : o.op = .call { callee := .builtin .append, args := #[s, x], argTypes := #[29, 29] }) (base : Nat) (v : Value) (n : Nat) (bs : List Nat) (hs : a.eval s = v) (hown : OwB w base v n bs)
    (g c : Nat) (y : Nat) (hx : a.eval x = .slice (some ⟨g, 0, none⟩) 1 c) (hy : One w g 5 (.int .u8 (y : Int))) (hy2 : y < 256) (hn : n ≤ 140737488353000) (hbase : base ≤ w.heap.size)
    (h : ∀ v' w', OwB w' base v' (n + 1) (bs ++ [y]) → Below base w w' → wpList Tryd.prog ops Q rest (a.put o.dst v') w') : wpList Tryd.prog ops Q (o :: rest) a w := by
  obtain ⟨i, hi, hz, hs2, hb⟩ := info_parts u8_info
  refine wpList_append_own w hgd s x 29 ho base 5 i (.int .u8 0) 1 1 Tryd.underlying29 hi hz hs2 hb rfl (by omega) v n (celB bs) hs hown.1 ⟨g, 0, none⟩ 1 c [.int .u8 (y : Int)] hx rfl ?_ ?_ ?_ ?_ hbase ?_
  · intro j u hj
    rw [ad_base]
    match j, hj with
    | 0, hj => injection hj with hj; subst hj; exact hy.c
    | j + 1, hj => simp at hj
  · intro u hu
    simp at hu
    subst hu
    rfl
  · unfold maxLen; omega
  · omega
  · intro v' w' hown' hg _
    refine h v' w' ⟨?_, fun z hz => ?_⟩ (OwB.below hown hg hbase)
    · rw [celB_append]
      exact hown'
    · rcases List.mem_append.1 hz with hz | hz
      · exact hown.2 z hz
      · rw [List.mem_singleton.1 hz]; exact hy2
theorem celB_src {w : World} {ad : Addr} {m c : Nat} {ys : List Nat} (hy : Sb w (some ad) m c ys) : ∀ j u, (celB ys)[j]? = some u → w.cell? (ad.add j) = some u := by
  intro j u hj
  have hl := (List.getElem?_eq_some_iff.1 hj).1
  rw [celB_length] at hl
  have h0 := hy.at_ (show j < m by rw [hy.len]; exact hl)
  rw [celB_get (hy.get (show j < m by rw [hy.len]; exact hl))] at hj
  injection hj with hj
  subst hj
  exact h0
/-- append(s, t...), t a slice with an address -/
theorem wpList_appendBs {ops : Array Oper} {rest : List Oper} {o : Oper} {a : Act} {Q : Exit → Act → World → Prop} {w : World} (hgd : o.guard = none) (s x : Operand)
    (ho : o.op = .call { callee := .builtin .append, args := #[s, x], argTypes := #[29, 29] }) (base : Nat) (v : Value) (n : Nat) (bs : List Nat) (hs : a.eval s = v) (hown : OwB w base v n bs)
    (ad : Addr) (m c : Nat) (ys : List Nat) (hx : a.eval x = .slice (some ad) m c) (hy : Sb w (some ad) m c ys) (hn : n + m ≤ 140737488353000) (hbase : base ≤ w.heap.size)
    (h : ∀ v' w', OwB w' base v' (n + m) (bs ++ ys) → Below base w w' → wpList Tryd.prog ops Q rest (a.put o.dst v') w') : wpList Tryd.prog ops Q (o :: rest) a w := by
  obtain ⟨i, hi, hz, hs2, hb⟩ := info_parts u8_info
  refine wpList_append_own w hgd s x 29 ho base 5 i (.int .u8 0) 1 1 Tryd.underlying29 hi hz hs2 hb rfl (by omega) v n (celB bs) hs hown.1 ad m c (celB ys) hx (by rw [celB_length, ← hy.len, Nat.mul_one]) (celB_src hy) (fun u hu => celB_one' hu) ?_ ?_ hbase ?_
  · unfold maxLen; omega
  · omega
  · intro v' w' hown' hg _
    refine h v' w' ⟨?_, fun z hz => ?_⟩ (OwB.below hown hg hbase)
    · rw [celB_append]
      exact hown'
    · rcases List.mem_append.1 hz with hz | hz
      · exact hown.2 z hz
      · exact hy.byte z hz
end Go.Proofs.YtgkojdbepgonkaaDoor

/- SHA-256 over lists of bytes: padding, the chain over the blocks, the digest of a message; no program. -/
namespace Go.Proofs.YtgkojdbepgonkaaDoor
set_option linter.unusedVariables false
set_option linter.unusedSimpArgs false
set_option maxRecDepth 8000
open Go.RowKit

def zerosN (n : Nat) : Nat := 63 - (n + 8) % 64
def lenF (n i : Nat) : Nat := 8 * n / 2 ^ (56 - 8 * i) % 256
/-- the first k bytes of the length -/
def lenB (n k : Nat) : List Nat := (List.range k).map (lenF n)
def padN (n : Nat) : List Nat := 128 :: (List.replicate (zerosN n) 0 ++ lenB n 8)
def msgN (m : List Nat) : List Nat := m ++ padN m.length
theorem lenB_length (n k : Nat) : (lenB n k).length = k := by unfold lenB; simp
theorem lenB_succ (n k : Nat) : lenB n (k + 1) = lenB n k ++ [lenF n k] := by unfold lenB; rw [List.range_succ]; simp
theorem lenF_lt (n i : Nat) : lenF n i < 256 := Nat.mod_lt _ (by decide)
theorem lenB_lt (n k : Nat) : ∀ x ∈ lenB n k, x < 256 := by
  intro x hx
  unfold lenB at hx
  obtain ⟨i, _, rfl⟩ := List.mem_map.1 hx
  exact lenF_lt n i
theorem lenB_drop (n i : Nat) (h : i < 8) : (lenB n 8).drop (8 - (i + 1)) = lenF n (7 - i) :: (lenB n 8).drop (8 - i) := by
  have e : 8 - (i + 1) < (lenB n 8).length := by rw [lenB_length]; omega
  rw [List.drop_eq_getElem_cons e, show 8 - (i + 1) + 1 = 8 - i by omega]
  congr 1
  unfold lenB
  simp
theorem padN_length (n : Nat) : (padN n).length = zerosN n + 9 := by unfold padN; simp [lenB_length]
theorem padN_lt (n : Nat) : ∀ x ∈ padN n, x < 256 := by
  intro x hx
  unfold padN at hx
  rcases List.mem_cons.1 hx with rfl | hx
  · decide
  · rcases List.mem_append.1 hx with hx | hx
    · rw [(List.mem_replicate.1 hx).2]; decide
    · exact lenB_lt n 8 x hx
theorem zerosN_le (n : Nat) : zerosN n ≤ 63 := Nat.sub_le _ _
/-- the number of blocks -/
def nblk (n : Nat) : Nat := (n + 8) / 64 + 1
theorem total_len (n : Nat) : n + (zerosN n + 9) = 64 * nblk n := by unfold zerosN nblk; omega
theorem msgN_length (m : List Nat) : (msgN m).length = 64 * nblk m.length := by unfold msgN; rw [List.length_append, padN_length, total_len]
theorem msgN_lt {m : List Nat} (h : ∀ x ∈ m, x < 256) : ∀ x ∈ msgN m, x < 256 := by
  intro x hx
  rcases List.mem_append.1 hx with hx | hx
  · exact h x hx
  · exact padN_lt _ x hx
/-- the bytes of block i of a message -/
def blkF (p : List Nat) (i : Nat) : Nat → Nat := fun j => p.getD (64 * i + j) 0
/-- the chain after i blocks, from s on -/
def stN (s : Ch) (p : List Nat) : Nat → Ch
  | 0 => s
  | i + 1 => compN (stN s p i) (blkF p i)
theorem stN_ok {s : Ch} (h : s.Ok) (p : List Nat) (i : Nat) : (stN s p i).Ok := by
  cases i with
  | zero => exact h
  | succ i => exact compN_ok _ _
/-- the digest of a message -/
def shaN (m : List Nat) : List Nat := digN (stN ch0 (msgN m) (nblk m.length)) 32
theorem shaN_length (m : List Nat) : (shaN m).length = 32 := digN_length _ _
theorem digN_lt (s : Ch) (n : Nat) : ∀ x ∈ digN s n, x < 256 := by
  intro x hx
  unfold digN at hx
  obtain ⟨i, _, rfl⟩ := List.mem_map.1 hx
  exact Nat.mod_lt _ (by decide)
theorem shaN_lt (m : List Nat) : ∀ x ∈ shaN m, x < 256 := digN_lt _ _
theorem blkF_lt {p : List Nat} (h : ∀ x ∈ p, x < 256) (i j : Nat) : blkF p i j < 256 := getD_byte h _
theorem blkF_drop (p : List Nat) (i : Nat) : blkF p i = fun j => (p.drop (64 * i)).getD j 0 := by
  funext j
  unfold blkF
  simp [List.getD_eq_getElem?_getD, List.getElem?_drop]
theorem set_end {a x k : Nat} {D : List Nat} : (a :: (List.replicate (k + 1) 0 ++ D)).set (k + 1) x = a :: (List.replicate k 0 ++ x :: D) := by
  rw [List.set_cons_succ]
  congr 1
  rw [List.replicate_succ']
  simp
theorem get_end {a k : Nat} {D : List Nat} : (a :: (List.replicate (k + 1) 0 ++ D))[k + 1]? = some 0 := by
  rw [List.getElem?_cons_succ, List.getElem?_append_left (by simp)]
  simp
end Go.Proofs.YtgkojdbepgonkaaDoor

/- Contracts of package sha256: padding. -/
namespace Go.Proofs.YtgkojdbepgonkaaDoor
set_option linter.unusedVariables false
set_option linter.unusedSimpArgs false
set_option maxRecDepth 8000
open Go.RowKit
set_option maxHeartbeats 1000000 in
theorem padding_any (n : Nat) (w : World) (hn : n ≤ 140737488353000) :
    Calls Tryd.prog 114 #[.int .u64 (n : Int)] w fun e w' => e = .returned (.slice (some ⟨w.heap.size, 0, none⟩) (zerosN n + 9) (zerosN n + 9)) ∧ RowB w' 5 w.heap.size (padN n) ∧ Below w.heap.size w w' := by
  go_enter Tryd.func114, Tryd.ntmps114
  have hz9 := zerosN_le n
  have hzE : (63 : Int) - ((n : Int) + 8) % 64 = ((zerosN n : Nat) : Int) := by unfold zerosN; omega
  have hP : Hid (padN n = 128 :: (List.replicate (zerosN n) 0 ++ lenB n 8)) := Lib.hid rfl
  go_upto_region 2 with fail
  clear hzE
  generalize hzz : zerosN n = z at *
  have HZ := Lib.hid hzz
  clear hzz
  obtain ⟨L, hL⟩ : ∃ L : Nat, L = z + 9 := ⟨_, rfl⟩
  have hmk := run_makeB L L (Nat.le_refl _) (by omega)
  have hz : (1 : Int) + (z : Int) + 8 = (L : Int) := by omega
  have HL := Lib.hid hL
  have hL0 : (0 : Int) < (L : Int) := by omega
  have hL1 : L ≤ 80 := by omega
  clear hL
  go_upto_region 3 with fail
  clear hmk hz
  have HR := Lib.hid (RowB.new w 5 (List.replicate L 0))
  have HB := Lib.hid ((Below.refl w.heap.size w).alloc (Nat.le_refl _) (.cells (celB (List.replicate L 0)).toArray 5))
  generalize w.alloc (.cells (celB (List.replicate L 0)).toArray 5) = w1 at *
  have c0 := HR.out.at_ (i := 0) (x := 0) (by rw [List.getElem?_replicate, HL.out]; simp)
  have f0 := HR.out.free 0
  go_upto_region 5 with fail
  clear c0 f0
  have HR1 : Hid (RowB (w1.setCell ⟨w.heap.size, 0, none⟩ (.int .u8 128)) 5 w.heap.size (128 :: (List.replicate (z + (8 - 0)) 0 ++ (lenB n 8).drop (8 - 0)))) := Lib.hid (by
    have h := HR.out.put 0 128 128 rfl
    rw [List.drop_of_length_le (by rw [lenB_length]; exact Nat.le_refl _), List.append_nil]
    rwa [HL.out, List.replicate_succ, List.set_cons_zero] at h)
  have HB1 : Hid (Below w.heap.size w (w1.setCell ⟨w.heap.size, 0, none⟩ (.int .u8 128))) := Lib.hid (HB.out.setCell (Nat.le_refl _) _)
  clear HR HB
  generalize w1.setCell ⟨w.heap.size, 0, none⟩ (.int .u8 128) = w2 at *
  go_wp2_with fail
  go_loopw [20] (fun s wr => ∃ k : Nat, k ≤ 8 ∧ s = .int .i64 k ∧ RowB wr 5 w.heap.size (128 :: (List.replicate (z + (8 - k)) 0 ++ (lenB n 8).drop (8 - k))) ∧ Below w.heap.size w wr) (fun s _ => 8 - (intOf s).toNat)
  case atStart => exact ⟨0, by omega, rfl, HR1.out, HB1.out⟩
  case round =>
    clear HR1 HB1
    obtain ⟨k, hk, rfl, hr, hb⟩ := hrel
    have HR := Lib.hid hr
    have HB := Lib.hid hb
    clear hr hb
    by_cases hlt : k < 8
    · have hk1 : (k : Int) < 8 := by omega
      have hk0 : (0 : Int) ≤ (k : Int) := by omega
      have e1 : (L : Int) - 1 - (k : Int) = ((z + (7 - k) + 1 : Nat) : Int) := by have := HL.out; omega
      have e2 : ((8 : Int) * (k : Int)).toNat = 8 * k := by omega
      have e3 : min (8 * k) 64 = 8 * k := by omega
      have e4 : ((z + (7 - k) + 1 : Nat) : Int) < (L : Int) := by have := HL.out; omega
      have e5 : (0 : Int) ≤ ((z + (7 - k) + 1 : Nat) : Int) := by have := HL.out; omega
      have hr := HR.out
      rw [show z + (8 - k) = z + (7 - k) + 1 by omega] at hr
      have c0 := hr.at_ get_end
      have f0 := hr.free (z + (7 - k) + 1)
      have HR1 := Lib.hid hr
      clear hr HR
      generalize hix : z + (7 - k) + 1 = ix at *
      go_wp2_with fail
      go_roundw
      case rel =>
        refine ⟨k + 1, by omega, by go_num, ?_, HB.out.setCell (by simp) _⟩
        rw [lenB_drop n k hlt]
        subst hix
        have hv : Value.int .u8 (8 * (n : Int) / 2 ^ (8 * k) % 256) = Value.int .u8 ((lenF n (7 - k) : Nat) : Int) := by
          unfold lenF
          rw [show 56 - 8 * (7 - k) = 8 * k by omega]
          rfl
        rw [hv]
        have h := HR1.out.put (z + (7 - k) + 1) _ (lenF n (7 - k)) rfl
        rw [set_end] at h
        rwa [show z + (8 - (k + 1)) = z + (7 - k) by omega]
      case measure => simp [intOf]; omega
    · have hkn : k = 8 := by omega
      subst hkn
      go_wp2_with fail
      go_ret
      refine ⟨?_, ?_, HB.out⟩
      · rw [HZ.out, ← HL.out]; rfl
      · have h := HR.out
        rw [hP.out]
        simpa using h
end Go.Proofs.YtgkojdbepgonkaaDoor

/- A statement whose order is open and that holds calls whose results lie at unknown places: one walk in the order of the text serves every order, where what only looks yields one value in every world of a class, and what calls leaves a world of the class. No program, no conditions. -/
namespace Go.Proofs.YtgkojdbepgonkaaDoor
set_option linter.unusedVariables false
set_option linter.unusedSimpArgs false
set_option maxRecDepth 8000
open Go.RowKit

/-- operations that only look -/
def stillOp (o : Oper) : Bool := match o.op with
  | .move _ => true
  | .assign _ => true
  | .pick _ _ _ => true
  | .load _ _ => true
  | .binOp _ _ _ _ _ => true
  | .unOp _ _ _ => true
  | .convert _ _ _ => true
  | .extract _ _ => true
  | .field _ _ _ => true
  | .indexAddr _ _ _ => true
  | .fieldAddr _ _ _ => true
  | .build _ _ => true
  | .slice _ _ _ _ _ => true
  | .call c => match c.callee with
    | .builtin .len => true
    | .builtin .min => true
    | .builtin .max => true
    | _ => false
  | _ => false

theorem andThen_value {P : Program} {α : Type} {s : Sem α} {g : α → Value} {w w' : World} {n : Next} (h : (do let x ← s; pure (Next.value (g x)) : Sem Next).run P w = .ok n w') : ∃ x, n = .value x := by
  rw [Sem.run_bind] at h
  cases hs : s.run P w with
  | ok x w1 =>
    rw [hs, Result.andThen_ok, Sem.run_pure] at h
    injection h with h _
    exact ⟨_, h.symm⟩
  | halt x w1 => rw [hs] at h; cases h
theorem still_value {P : Program} {o : Oper} (h : stillOp o = true) {ev : Operand → Value} {w w' : World} {n : Next} (hr : (execOp ev o).run P w = .ok n w') : ∃ x, n = .value x := by
  unfold stillOp at h
  unfold execOp at hr
  cases ho : o.op with
  | call c =>
    simp only [ho] at h hr
    obtain ⟨callee, args, argTypes⟩ := c
    cases callee with
    | builtin b =>
      cases b <;> first | (cases h; done) | (simp only [resolve, Sem.run_bind, Sem.run_pure, Result.andThen_ok, invoke, builtin] at hr; exact andThen_value (g := fun x => x) (by simpa only [Sem.run_bind, Sem.run_pure] using hr))
    | _ => cases h
  | _ => simp only [ho] at h hr <;> first | (exact absurd h (by decide)) | exact andThen_value (g := fun x => x) hr | exact andThen_value hr | (rw [Sem.run_pure] at hr; injection hr with hr _; exact ⟨_, hr.symm⟩)

section
variable {P : Program} {ops : Array Oper} {S : World → Prop} {Q : Exit → Act → World → Prop}

/-- what an operation that is carried out may leave: its value and the world -/
def heldUpon (P : Program) (K : Value → World → Prop) : Result Next → Prop
  | .ok (.value u) w' => K u w'
  | .ok .skip w' => K undef w'
  | .ok (.enter f args) w' => Calls P f args w' (fun e w'' => ∃ v, e = .returned v ∧ K v w'')
  | _ => False
def hOp (P : Program) (o : Oper) (K : Value → World → Prop) (a : Act) (w : World) : Prop := heldUpon P K ((execOp a.eval o).run P w)
theorem hOp_mono {o : Oper} {K K' : Value → World → Prop} {a : Act} {w : World} (h : ∀ v w', K v w' → K' v w') (hh : hOp P o K a w) : hOp P o K' a w := by
  unfold hOp at *
  generalize (execOp a.eval o).run P w = r at *
  cases r with
  | ok n w' =>
    cases n <;> simp only [heldUpon] at hh ⊢ <;> first | exact h _ _ hh | exact hh.mono fun _ _ ⟨v, he, hk⟩ => ⟨v, he, h _ _ hk⟩
  | halt x w' => exact hh
theorem hOp_out {o : Oper} {K : Value → World → Prop} {a : Act} {w : World} (hh : hOp P o K a w) : ∃ v w', K v w' := by
  unfold hOp at hh
  generalize (execOp a.eval o).run P w = r at hh
  cases r with
  | ok n w' =>
    cases n <;> simp only [heldUpon] at hh
    case value u => exact ⟨_, _, hh⟩
    case skip => exact ⟨_, _, hh⟩
    case enter f args =>
      obtain ⟨e, w1, fr, ⟨v, _, hk⟩, _⟩ := hh []
      exact ⟨v, w1, hk⟩
  | halt x w' => exact hh.elim
theorem hOp_put {o : Oper} (hs : ∀ cs b, o.op ≠ .select cs b) {K : Value → World → Prop} {a : Act} {w : World} {d : Option Tmp} {u : Value} (h : ∀ t, d = some t → t ∉ o.looksAt ops) (hh : hOp P o K a w) : hOp P o K (a.put d u) w := by
  unfold hOp at *
  rw [execOp_put o hs a d u h]
  exact hh

def quietNow (ops : Array Oper) (o : Oper) (a : Act) : Prop := stillOp o = true ∨ Region.wanted o (yielded ops a.tmps) = false
def sOp (P : Program) (ops : Array Oper) (S : World → Prop) (i : Nat) (K : Act → World → Prop) (a : Act) (w : World) : Prop :=
  match ops[i]? with
  | none => K a w
  | some o => (quietNow ops o a ∧ ∃ v, YieldsIf P ops S o v a ∧ K (a.put o.dst v) w) ∨ (¬ quietNow ops o a ∧ hOp P o (fun v w' => S w' ∧ K (a.put o.dst v) w') a w)
theorem sOp_mono {i : Nat} {K K' : Act → World → Prop} {a : Act} {w : World} (hS : S w) (h : ∀ a w, S w → K a w → K' a w) (hh : sOp P ops S i K a w) : sOp P ops S i K' a w := by
  unfold sOp at *
  cases hi : ops[i]? with
  | none => rw [hi] at hh; exact h _ _ hS hh
  | some o =>
    rw [hi] at hh
    rcases hh with ⟨hq, v, hy, hk⟩ | ⟨hq, hh⟩
    · exact .inl ⟨hq, v, hy, h _ _ hS hk⟩
    · exact .inr ⟨hq, hOp_mono (fun _ _ ⟨h1, h2⟩ => ⟨h1, h _ _ h1 h2⟩) hh⟩
theorem sOp_out {i : Nat} {K : Act → World → Prop} {a : Act} {w : World} (hS : S w) (hh : sOp P ops S i K a w) : ∃ a' w', S w' ∧ K a' w' := by
  unfold sOp at hh
  cases hi : ops[i]? with
  | none => rw [hi] at hh; exact ⟨_, _, hS, hh⟩
  | some o =>
    rw [hi] at hh
    rcases hh with ⟨_, v, _, hk⟩ | ⟨_, hh⟩
    · exact ⟨_, _, hS, hk⟩
    · obtain ⟨v, w', h1, h2⟩ := hOp_out hh
      exact ⟨_, _, h1, h2⟩
theorem quietNow_put {o : Oper} {a : Act} {d : Option Tmp} {u : Value} (h : ∀ t, d = some t → t ∉ o.looksAt ops) : quietNow ops o (a.put d u) ↔ quietNow ops o a := by
  unfold quietNow
  rw [wanted_put o a d u h]
theorem wpOp_of_sOp {i : Nat} {K K' : Act → World → Prop} {a : Act} {w : World} (hS : S w) (h : ∀ a w, S w → K a w → K' a w) (hh : sOp P ops S i K a w) : wpOp P ops Q i K' a w := by
  unfold sOp at hh
  cases hi : ops[i]? with
  | none =>
    rw [hi] at hh
    unfold wpOp
    simp only [hi]
    exact h _ _ hS hh
  | some o =>
    rw [hi] at hh
    rcases hh with ⟨_, v, hy, hk⟩ | ⟨hq, hh⟩
    · exact hy.wpOp hi hS (h _ _ hS hk)
    · have hw : Region.wanted o (yielded ops a.tmps) = true := by
        cases e : Region.wanted o (yielded ops a.tmps) with
        | true => rfl
        | false => exact absurd (.inr e) hq
      unfold wpOp
      simp only [hi, hw, if_true]
      refine .inl ?_
      unfold hOp at hh
      unfold Oper.wp
      generalize (execOp a.eval o).run P w = r at *
      cases r with
      | ok n w' =>
        cases n <;> simp only [heldUpon] at hh <;> simp only [Oper.upon]
        case value u => exact h _ _ hh.1 hh.2
        case skip => exact h _ _ hh.1 hh.2
        case enter f args => exact hh.mono fun e w'' ⟨v, he, h1, h2⟩ => by subst he; exact h _ _ h1 h2
      | halt x w' => exact hh.elim

/-- whatever order is picked -/
def wpS (P : Program) (ops : Array Oper) (S : World → Prop) (Q : Exit → Act → World → Prop) : Nat → Array Bool → Act → World → Prop
  | 0, listed, a, w => Region.ready .any ops listed = [] ∧ Q .normal a w
  | n + 1, listed, a, w => (Region.ready .any ops listed = [] → Q .normal a w) ∧ ∀ i, i ∈ Region.ready .any ops listed → sOp P ops S i (wpS P ops S Q n (listed.setIfInBounds i true)) a w
theorem wpAny_of_wpS : ∀ (n : Nat) (listed : Array Bool) (a : Act) (w : World), S w → wpS P ops S Q n listed a w → wpAny P .any ops Q n listed a w
  | 0, _, _, _, _, h => h
  | n + 1, _, _, _, hS, h => ⟨h.1, fun i hi => wpOp_of_sOp hS (fun a' w' hS' h' => wpAny_of_wpS n _ a' w' hS' h') (h.2 i hi)⟩

theorem YieldsIf.one {o : Oper} {u v : Value} {a : Act} {w : World} (hS : S w) (h : YieldsIf P ops S o u a) (k : YieldsIf P ops S o v a) : u = v := by
  rcases h with ⟨h1, h2⟩ | ⟨h1, h2⟩ <;> rcases k with ⟨k1, k2⟩ | ⟨k1, k2⟩
  · have := (h2 w hS).symm.trans (k2 w hS)
    injection this with e
    injection e
  · rw [h1] at k1; cases k1
  · rw [h1] at k1; cases k1
  · rw [h2, k2]

/-- one operation apart from another: its value may be there already -/
theorem sOp_put {j : Nat} {oi oj : Oper} {v : Value} (hj : ops[j]? = some oj) (hap : oi.apart ops oj = true) (hsi : ∀ cs b, oi.op ≠ .select cs b) (hsj : ∀ cs b, oj.op ≠ .select cs b) {K : Act → World → Prop} {a : Act} {w : World}
    (hq : quietNow ops oi a) (hy : YieldsIf P ops S oi v a) (h : sOp P ops S j K (a.put oi.dst v) w) : sOp P ops S j (fun a' w' => quietNow ops oi a' ∧ YieldsIf P ops S oi v a' ∧ K (a'.put oi.dst v) w') a w := by
  obtain ⟨h1, h2, h3⟩ := Oper.apart_spec hap
  have keep : ∀ u, quietNow ops oi (a.put oj.dst u) ∧ YieldsIf P ops S oi v (a.put oj.dst u) := fun u =>
    ⟨(quietNow_put h3).2 hq, hy.of_same (execOp_put oi hsi a oj.dst u h3) (wanted_put oi a oj.dst u h3)⟩
  unfold sOp at *
  rw [hj] at h ⊢
  rcases h with ⟨hqj, u, hu, hk⟩ | ⟨hqj, hh⟩
  · exact .inl ⟨(quietNow_put h1).1 hqj, u, hu.of_same (execOp_put oj hsj a oi.dst v h1).symm (wanted_put oj a oi.dst v h1).symm, (keep u).1, (keep u).2, by rw [← Act.put_comm a v u h2]; exact hk⟩
  · refine .inr ⟨fun e => hqj ((quietNow_put h1).2 e), ?_⟩
    have hh' : hOp P oj (fun v' w' => S w' ∧ K ((a.put oi.dst v).put oj.dst v') w') a w := by
      unfold hOp at *
      rw [execOp_put oj hsj a oi.dst v h1] at hh
      exact hh
    exact hOp_mono (fun u w' ⟨e1, e2⟩ => ⟨e1, (keep u).1, (keep u).2, by rw [← Act.put_comm a v u h2]; exact e2⟩) hh'

/-- every later call waits for a call that has not come up -/
def Chain (ops : Array Oper) (i : Nat) (listed : Array Bool) : Prop := ∀ j oj, ops[j]? = some oj → j ≠ i → listed.getD j true = false → stillOp oj = false →
  ∃ e, e ∈ oj.after ∧ Region.binds .any e = true ∧ listed.getD e.on false = false ∧ ∀ oe, ops[e.on]? = some oe → stillOp oe = false

theorem wpS_first {i : Nat} {oi : Oper} (hi : ops[i]? = some oi) (hsel : ∀ (j : Nat) (o : Oper) cs b, ops[j]? = some o → o.op ≠ .select cs b) : ∀ (n : Nat) (listed : Array Bool) (a : Act) (w : World), S w →
      (∀ j oj, ops[j]? = some oj → j ≠ i → listed.getD j true = false → (∀ e ∈ oj.after, Region.binds .any e = true → e.on ≠ i) → oi.apart ops oj = true) →
      (stillOp oi = false → Chain ops i listed) → i ∈ Region.ready .any ops listed → sOp P ops S i (wpS P ops S Q n (listed.setIfInBounds i true)) a w → wpS P ops S Q (n + 1) listed a w := by
  intro n
  induction n with
  | zero =>
    intro listed a w hS _ _ hr H
    refine ⟨fun h => (by rw [h] at hr; cases hr), fun j hj => ?_⟩
    by_cases hji : j = i
    · subst hji; exact H
    · obtain ⟨a', w', _, h0, _⟩ := sOp_out hS H
      have := ready_mono hj hji
      rw [h0] at this
      cases this
  | succ n ih =>
    intro listed a w hS hfree hchain hr H
    refine ⟨fun h => (by rw [h] at hr; cases hr), fun j hj => ?_⟩
    by_cases hji : j = i
    · subst hji; exact H
    obtain ⟨hjun, oj, hoj, hall⟩ := mem_ready.1 hj
    have hnot : ∀ e ∈ oj.after, Region.binds .any e = true → e.on ≠ i := fun e he hb heq => by
      have h1 := hall e he hb
      have h0 := (mem_ready.1 hr).1
      rw [heq, getD_both h0] at h1
      cases h1
    have hap := hfree j oj hoj hji hjun hnot
    obtain ⟨p1, p2, p3⟩ := Oper.apart_spec hap
    have hsi := fun cs b => hsel i oi cs b hi
    have hsj := fun cs b => hsel j oj cs b hoj
    have hfree' : ∀ k ok, ops[k]? = some ok → k ≠ i → (listed.setIfInBounds j true).getD k true = false →
        (∀ e ∈ ok.after, Region.binds .any e = true → e.on ≠ i) → oi.apart ops ok = true := fun k ok hk hki hun hno => by
      refine hfree k ok hk hki ?_ hno
      by_cases hjk : j = k
      · subst hjk; exact hjun
      · rw [getD_set_ne true hjk] at hun; exact hun
    -- where i calls, j only looks
    have hjs : stillOp oi = false → stillOp oj = true := fun hs => by
      cases e : stillOp oj with
      | true => rfl
      | false =>
        obtain ⟨e, he, hb, hun, _⟩ := hchain hs j oj hoj hji hjun e
        rw [hall e he hb] at hun
        cases hun
    have hchain' : stillOp oi = false → Chain ops i (listed.setIfInBounds j true) := fun hs => by
      intro k ok hk hki hun hks
      have hjk : j ≠ k := by
        rintro rfl
        rw [hoj] at hk
        injection hk with hk
        rw [← hk, hjs hs] at hks
        cases hks
      rw [getD_set_ne true hjk] at hun
      obtain ⟨e, he, hb, h1, h2⟩ := hchain hs k ok hk hki hun hks
      refine ⟨e, he, hb, ?_, h2⟩
      have hje : j ≠ e.on := by
        intro h
        have := h2 oj (by rw [← h]; exact hoj)
        rw [hjs hs] at this
        cases this
      rw [getD_set_ne false hje]
      exact h1
    have hr' := ready_mono hr (Ne.symm hji)
    unfold sOp at H
    rw [hi] at H
    rcases H with ⟨hq, v, hy, HK⟩ | ⟨hnq, hh⟩
    · have h2 := sOp_put hoj hap hsi hsj hq hy (HK.2 j (ready_mono hj hji))
      refine sOp_mono hS (fun a' w' hS' ⟨hq', hy', hk'⟩ => ih (listed.setIfInBounds j true) a' w' hS' hfree' hchain' hr' ?_) h2
      unfold sOp
      rw [hi]
      refine .inl ⟨hq', v, hy', ?_⟩
      rw [Array.setIfInBounds_comm _ _ hji]
      exact hk'
    · have hs : stillOp oi = false := by
        cases e : stillOp oi with
        | false => rfl
        | true => exact absurd (.inl e) hnq
      have hj' := hjs hs
      obtain ⟨v0, w0, hS0, hK0⟩ := hOp_out hh
      have h1 := hK0.2 j (ready_mono hj hji)
      unfold sOp at h1
      rw [hoj] at h1
      obtain ⟨vj, hyj⟩ : ∃ vj, YieldsIf P ops S oj vj a := by
        rcases h1 with ⟨_, u, hu, _⟩ | ⟨e, _⟩
        · exact ⟨u, hu.of_same (execOp_put oj hsj a oi.dst v0 p1).symm (wanted_put oj a oi.dst v0 p1).symm⟩
        · exact absurd (.inl hj') e
      unfold sOp
      rw [hoj]
      refine .inl ⟨.inl hj', vj, hyj, ih (listed.setIfInBounds j true) (a.put oj.dst vj) w hS hfree' hchain' hr' ?_⟩
      unfold sOp
      rw [hi]
      refine .inr ⟨fun e => hnq ((quietNow_put p3).1 e), hOp_put hsi p3 (hOp_mono (fun v w' ⟨hS', hk'⟩ => ⟨hS', ?_⟩) hh)⟩
      have h2 := hk'.2 j (ready_mono hj hji)
      unfold sOp at h2
      rw [hoj] at h2
      rcases h2 with ⟨_, u, hu, hk2⟩ | ⟨e, _⟩
      · have hu' : YieldsIf P ops S oj u a := hu.of_same (execOp_put oj hsj a oi.dst v p1).symm (wanted_put oj a oi.dst v p1).symm
        have e := YieldsIf.one hS' hu' hyj
        subst e
        rw [Array.setIfInBounds_comm _ _ hji, ← Act.put_comm a v u p2]
        exact hk2
      · exact absurd (.inl hj') e

/-- the walk in the order of the text -/
def wpHeld (P : Program) (ops : Array Oper) (S : World → Prop) (Q : Exit → Act → World → Prop) : List Oper → Act → World → Prop
  | [], a, w => Q .normal a w
  | o :: l, a, w => (quietNow ops o a ∧ ∃ v, YieldsIf P ops S o v a ∧ wpHeld P ops S Q l (a.put o.dst v) w) ∨ (¬ quietNow ops o a ∧ hOp P o (fun v w' => S w' ∧ wpHeld P ops S Q l (a.put o.dst v) w') a w)

/-- each call waits for the call before it -/
structure ChainOK (ops : Array Oper) : Prop where
  chain : ∀ (k j : Nat) (ok oj : Oper), k < j → ops[k]? = some ok → ops[j]? = some oj → stillOp ok = false → stillOp oj = false → ∃ e, e ∈ oj.after ∧ Region.binds .any e = true ∧ k ≤ e.on ∧ e.on < j ∧ ∀ oe, ops[e.on]? = some oe → stillOp oe = false

theorem wpS_of_lex (hx : LexOK ops) (hc : ChainOK ops) : ∀ (l : List Oper) (k : Nat) (listed : Array Bool) (a : Act) (w : World), S w →
    (∀ j, l[j]? = ops[k + j]?) → k + l.length = ops.size → listed.size = ops.size → (∀ i, i < k → listed.getD i false = true) → (∀ i, k ≤ i → i < ops.size → listed.getD i true = false) →
    wpHeld P ops S Q l a w → wpS P ops S Q l.length listed a w
  | [], k, listed, a, w, _, _, hk, hz, h1, _, h => by
    refine ⟨?_, h⟩
    refine List.eq_nil_iff_forall_not_mem.2 fun i hi => ?_
    obtain ⟨h0, o, ho, _⟩ := mem_ready.1 hi
    have hlt := (Array.getElem?_eq_some_iff.1 ho).1
    have h3 := h1 i (by simp at hk; omega)
    rw [getD_both h0] at h3
    cases h3
  | o :: l, k, listed, a, w, hS, hl, hk, hz, h1, h2, h => by
    have h0 : ops[k]? = some o := by simpa using (hl 0).symm
    have hlt : k < ops.size := (Array.getElem?_eq_some_iff.1 h0).1
    have hst : sOp P ops S k (wpHeld P ops S Q l) a w := by
      unfold sOp
      rw [h0]
      exact h
    have hun : ∀ j, listed.getD j true = false → k ≤ j := fun j hun => by
      rcases Nat.lt_or_ge j k with h' | h'
      · have h3 := h1 j h'
        rw [getD_both hun] at h3
        cases h3
      · exact h'
    refine wpS_first h0 (Region.noSelect_spec hx.sel) l.length listed a w hS ?_ ?_ (mem_ready.2 ⟨h2 k (Nat.le_refl _) hlt, o, h0, fun e he hb => h1 _ (hx.edge k o h0 e he hb)⟩) ?_
    · intro j oj hj hne hju hno
      refine hx.free k j o oj ?_ h0 hj hno
      have := hun j hju
      omega
    · intro hs j oj hj hne hju hjs
      have := hun j hju
      obtain ⟨e, he, hb, hke, hej, hes⟩ := hc.chain k j o oj (by omega) h0 hj hs hjs
      refine ⟨e, he, hb, ?_, hes⟩
      have hjlt : j < ops.size := (Array.getElem?_eq_some_iff.1 hj).1
      exact getD_both (h2 e.on hke (by omega))
    · refine sOp_mono hS (fun a' w' hS' h' => wpS_of_lex hx hc l (k + 1) _ a' w' hS' (fun j => by have := hl (j + 1); simpa [Nat.add_assoc, Nat.add_comm 1 j] using this) (by simp at hk; omega) (by simpa using hz) ?_ ?_ h') hst
      · intro i hi
        by_cases e : i = k
        · subst e
          simp [hz, hlt]
        · exact getD_set_true (h1 i (by omega))
      · intro i hi hi'
        rw [getD_set_ne true (by omega)]
        exact h2 i (by omega) hi'

theorem wp_held_lex {id : Nat} {a : Act} {w : World} {l : List Oper} (hm : P.follows .mixedOrders = true) (hx : LexOK l.toArray) (hc : ChainOK l.toArray) (hS : S w.drew)
    (h : wpHeld P l.toArray S Q l a w.drew) : (Code.region id l.toArray true).wp P Q a w := by
  refine wp_region_any hm (wpAny_of_wpS (S := S) _ _ _ _ hS ?_)
  have := wpS_of_lex (P := P) (S := S) (Q := Q) hx hc l 0 (Array.replicate l.toArray.size false) a w.drew hS (by simp) (by simp) (by simp) (by intro i hi; omega) (fun i _ hi => getD_in (by simpa using hi) (getD_replicate_false _ _)) h
  simpa using this

/-! ### The moves of the walk -/
theorem wpHeld_nil {a : Act} {w : World} (h : Q .normal a w) : wpHeld P ops S Q [] a w := h
/-- what only looks, by the walk of such -/
theorem wpHeld_still : ∀ (l1 l2 : List Oper) {a : Act} {w : World}, S w → l1.all stillOp = true → wpQuiet P ops S (fun a' => wpHeld P ops S Q l2 a' w) l1 a → wpHeld P ops S Q (l1 ++ l2) a w
  | [], _, _, _, _, _, h => h
  | o :: l1, l2, a, w, hS, hs, h => by
    rw [List.all_cons, Bool.and_eq_true] at hs
    refine .inl ⟨.inl hs.1, ?_⟩
    unfold wpQuiet at h
    by_cases hw : Region.wanted o (yielded ops a.tmps) = true
    · rw [if_pos hw] at h
      obtain ⟨v, hv, hn⟩ := h
      refine ⟨v, .inl ⟨hw, fun w' hS' => ?_⟩, wpHeld_still l1 l2 hS hs.2 hn⟩
      have h1 := hv w' hS'
      unfold Oper.quietAt at h1
      cases hr : (execOp a.eval o).run P w' with
      | ok n w2 =>
        obtain ⟨x, rfl⟩ := still_value hs.1 hr
        rw [hr] at h1
        obtain ⟨e1, e2⟩ := h1
        rw [e1, e2]
      | halt x w2 => rw [hr] at h1; exact h1.elim
    · rw [if_neg hw] at h
      exact ⟨undef, .inr ⟨by simpa using hw, rfl⟩, wpHeld_still l1 l2 hS hs.2 h⟩
theorem wpHeld_seg (n : Nat) {l : List Oper} {a : Act} {w : World} (hS : S w) (hs : (l.take n).all stillOp = true) (h : wpQuiet P ops S (fun a' => wpHeld P ops S Q (l.drop n) a' w) (l.take n) a) : wpHeld P ops S Q l a w := by
  have := wpHeld_still (Q := Q) (l.take n) (l.drop n) hS hs h
  rwa [List.take_append_drop] at this
/-- a call of a function -/
theorem wpHeld_call {o : Oper} {l : List Oper} {a : Act} {w : World} {fn : Func} (f : FuncId) (hf : P.funcs[f]? = some fn) (hname : (fn.name == "runtime.NumGoroutine") = false) (hb : fn.body.isNone = false) (args : Array Operand) (ts : Array TypeId) (vs : Array Value) (ho : o.op = .call { callee := .value (.func f), args := args, argTypes := ts })
    (hw : Region.wanted o (yielded ops a.tmps) = true) (hv : args.map a.eval = vs) (h : Calls P f vs w fun e w' => ∃ v, e = .returned v ∧ S w' ∧ wpHeld P ops S Q l (a.put o.dst v) w') : wpHeld P ops S Q (o :: l) a w := by
  refine .inr ⟨?_, ?_⟩
  · rintro (h1 | h1)
    · unfold stillOp at h1
      simp only [ho] at h1
      cases h1
    · rw [hw] at h1
      cases h1
  · unfold hOp execOp
    simp only [ho]
    have e : (do let d ← resolve a.eval { callee := .value (.func f), args := args, argTypes := ts } o.type; invoke d.target d.args : Sem Next).run P w = .ok (.enter f vs) w := by
      subst hv
      have h1 : fn.name ≠ "runtime.NumGoroutine" := by simpa using hname
      have h2 : fn.body ≠ none := by
        intro e
        rw [e] at hb
        cases hb
      simp [resolve, Deferred.ofValue, invoke, go_sem, Act.eval, callFunc, hf, h1, h2]
    rw [e]
    exact h
/-- any other operation that is carried out -/
theorem wpHeld_op {o : Oper} {l : List Oper} {a : Act} {w : World} (hs : stillOp o = false) (hw : Region.wanted o (yielded ops a.tmps) = true) (h : hOp P o (fun v w' => S w' ∧ wpHeld P ops S Q l (a.put o.dst v) w') a w) : wpHeld P ops S Q (o :: l) a w := by
  refine .inr ⟨?_, h⟩
  rintro (h1 | h1)
  · rw [hs] at h1
    cases h1
  · rw [hw] at h1
    cases h1
/-- one that yields a value and leaves a world -/
theorem wpHeld_run {o : Oper} {l : List Oper} {a : Act} {w : World} (v : Value) (w1 : World) (hs : stillOp o = false) (hw : Region.wanted o (yielded ops a.tmps) = true) (hr : (execOp a.eval o).run P w = .ok (.value v) w1) (hS : S w1) (h : wpHeld P ops S Q l (a.put o.dst v) w1) : wpHeld P ops S Q (o :: l) a w := by
  refine wpHeld_op hs hw ?_
  unfold hOp
  rw [hr]
  exact ⟨hS, h⟩
/-- one that yields nothing and leaves a world -/
theorem wpHeld_run0 {o : Oper} {l : List Oper} {a : Act} {w : World} (w1 : World) (hs : stillOp o = false) (hw : Region.wanted o (yielded ops a.tmps) = true) (hr : (execOp a.eval o).run P w = .ok .skip w1) (hS : S w1) (h : wpHeld P ops S Q l (a.put o.dst undef) w1) : wpHeld P ops S Q (o :: l) a w := by
  refine wpHeld_op hs hw ?_
  unfold hOp
  rw [hr]
  exact ⟨hS, h⟩
/-- what is passed over -/
theorem wpHeld_skip {o : Oper} {l : List Oper} {a : Act} {w : World} (hw : Region.wanted o (yielded ops a.tmps) = false) (h : wpHeld P ops S Q l (a.put o.dst undef) w) : wpHeld P ops S Q (o :: l) a w :=
  .inl ⟨.inr hw, undef, .inr ⟨hw, rfl⟩, h⟩
end

/-! ### The class: what lies below a block has not changed -/
def LaterB (B : Nat) (w : World) : Type := { w' : World // Below B w w' }
instance {B : Nat} {w : World} : Nonempty (LaterB B w) := ⟨⟨w, Below.refl _ _⟩⟩
def LaterB.at {B : Nat} {w : World} (x : LaterB B w) : World := x.1
theorem LaterB.below {B : Nat} {w : World} (x : LaterB B w) : Below B w x.at := x.2
theorem LaterB.cell {B : Nat} {w : World} {a : Addr} {v : Value} (h : w.cell? a = some v) (hB : a.block < B) (x : LaterB B w) : x.at.cell? a = some v := (x.2.cell hB).trans h
theorem LaterB.step {B : Nat} {w w' w1 : World} (h : ∃ x : LaterB B w, w' = x.at) (hb : Below B w' w1) : ∃ x : LaterB B w, w1 = x.at := by
  obtain ⟨x, rfl⟩ := h
  exact ⟨⟨w1, x.2.trans hb⟩, rfl⟩
theorem LaterB.of {B : Nat} {w w' : World} (h : ∃ x : LaterB B w, w' = x.at) : Below B w w' := by
  obtain ⟨x, rfl⟩ := h
  exact x.2
theorem wp_heldB (B : Nat) {P : Program} {Q : Exit → Act → World → Prop} {id : Nat} {a : Act} {w : World} {l : List Oper} (hm : P.follows .mixedOrders = true) (hx : LexOK l.toArray) (hc : ChainOK l.toArray)
    (h : ∀ W, Below w.heap.size w W → (∃ x : LaterB B w, W = x.at) → wpHeld P l.toArray (fun w' => ∃ x : LaterB B w, w' = x.at) Q l a W) : (Code.region id l.toArray true).wp P Q a w :=
  wp_held_lex hm hx hc ⟨⟨w.drew, (Below.refl _ _).drew⟩, rfl⟩ (h w.drew (Below.refl _ _).drew ⟨⟨w.drew, (Below.refl _ _).drew⟩, rfl⟩)

theorem below_twoSets {B b : Nat} (h : B ≤ b) (W : World) (k l : Nat) (u v : Value) : Below B W ((W.setCell ⟨b, k, none⟩ u).setCell ⟨b, l, none⟩ v) :=
  Below.setCell (Below.setCell (Below.refl _ _) h _) h _
/-! ### The class: worlds that meet a condition -/
def LaterS (S : World → Prop) : Type := { w' : World // S w' }
def LaterS.at {S : World → Prop} (x : LaterS S) : World := x.1
theorem LaterS.get {S : World → Prop} {p : World → Prop} (h : ∀ w, S w → p w) (x : LaterS S) : p x.at := h _ x.2
theorem LaterS.some {S : World → Prop} {w : World} (h : S w) : ∃ x : LaterS S, w = x.at := ⟨⟨w, h⟩, rfl⟩
theorem LaterS.inh {S : World → Prop} {w : World} (h : S w) : Nonempty (LaterS S) := ⟨⟨w, h⟩⟩
theorem wp_heldS (S : World → Prop) {P : Program} {Q : Exit → Act → World → Prop} {id : Nat} {a : Act} {w : World} {l : List Oper} (hm : P.follows .mixedOrders = true) (hx : LexOK l.toArray) (hc : ChainOK l.toArray) (hS : S w.drew)
    (h : ∀ W, Below w.heap.size w W → S W → Nonempty (LaterS S) → wpHeld P l.toArray (fun w' => ∃ x : LaterS S, w' = x.at) Q l a W) : (Code.region id l.toArray true).wp P Q a w :=
  wp_held_lex hm hx hc (LaterS.some hS) (h w.drew (Below.refl _ _).drew hS (LaterS.inh hS))

/-! ### The tests -/
def chainN : List Oper → Nat → Option Nat → Bool
  | [], _, _ => true
  | o :: l, k, last => (stillOp o || (match last with | none => true | some p => Nat.beq (Nat.mod (Nat.shiftRight (afterMask o) p) 2) 1)) && chainN l (k + 1) (if stillOp o then last else some k)
theorem chainN_spec {ops : Array Oper} : ∀ (l : List Oper) (k : Nat) (last : Option Nat), (∀ j, l[j]? = ops[k + j]?) →
    (∀ p, last = some p → p < k ∧ (∀ o, ops[p]? = some o → stillOp o = false) ∧ ∀ j o, p < j → j < k → ops[j]? = some o → stillOp o = true) → (last = none → ∀ j o, j < k → ops[j]? = some o → stillOp o = true) → chainN l k last = true →
    ∀ (j : Nat) (oj : Oper), k ≤ j → ops[j]? = some oj → stillOp oj = false → ∀ (i : Nat) (oi : Oper), i < j → ops[i]? = some oi → stillOp oi = false → ∃ e, e ∈ oj.after ∧ Region.binds .any e = true ∧ i ≤ e.on ∧ e.on < j ∧ ∀ oe, ops[e.on]? = some oe → stillOp oe = false
  | [], k, _, hl, _, _, _, j, oj, hj, hoj, _ => by
    intro i oi hi hoi _
    have h0 : ops[j]? = none := by
      have := hl (j - k)
      rw [show k + (j - k) = j by omega] at this
      rw [← this]
      rfl
    rw [h0] at hoj
    cases hoj
  | o :: l, k, last, hl, hp, hn, h, j, oj, hj, hoj, hjs => by
    intro i oi hi hoi his
    have h0 : ops[k]? = some o := by simpa using (hl 0).symm
    simp only [chainN, Bool.and_eq_true] at h
    by_cases e : j = k
    · subst e
      rw [h0] at hoj
      injection hoj with hoj
      subst hoj
      have h1 := h.1
      rw [hjs, Bool.false_or] at h1
      cases hlast : last with
      | none =>
        have := hn hlast i oi hi hoi
        rw [his] at this
        cases this
      | some p =>
        rw [hlast] at h1
        obtain ⟨q1, q2, q3⟩ := hp p hlast
        have h2 : (afterMask o).testBit p = true := by
          rw [Nat.testBit_eq_decide_div_mod_eq, decide_eq_true_iff, ← Nat.shiftRight_eq_div_pow]
          exact Nat.eq_of_beq_eq_true h1
        obtain ⟨e, he, hb, hk⟩ := afterMask_mem h2
        refine ⟨e, he, hb, ?_, by omega, by rw [hk]; exact q2⟩
        rw [hk]
        rcases Nat.lt_or_ge p i with h' | h'
        · have := q3 i oi h' hi hoi
          rw [his] at this
          cases this
        · exact h'
    · refine chainN_spec l (k + 1) _ (fun j => by have := hl (j + 1); simpa [Nat.add_assoc, Nat.add_comm 1 j] using this) ?_ ?_ h.2 j oj (by omega) hoj hjs i oi hi hoi his
      · intro p hpe
        cases ho : stillOp o with
        | true =>
          rw [ho, if_pos rfl] at hpe
          obtain ⟨q1, q2, q3⟩ := hp p hpe
          refine ⟨by omega, q2, fun j' o' h1 h2 h3 => ?_⟩
          by_cases e' : j' = k
          · subst e'
            rw [h0] at h3
            injection h3 with h3
            rw [← h3, ho]
          · exact q3 j' o' h1 (by omega) h3
        | false =>
          rw [ho, if_neg (by decide)] at hpe
          injection hpe with hpe
          subst hpe
          refine ⟨by omega, fun o' h' => ?_, fun j' o' h1 h2 _ => by omega⟩
          rw [h0] at h'
          injection h' with h'
          rw [← h', ho]
      · intro hpe j' o' h1 h3
        cases ho : stillOp o with
        | true =>
          rw [ho, if_pos rfl] at hpe
          by_cases e' : j' = k
          · subst e'
            rw [h0] at h3
            injection h3 with h3
            rw [← h3, ho]
          · exact hn hpe j' o' (by omega) h3
        | false =>
          rw [ho, if_neg (by decide)] at hpe
          cases hpe
theorem chainOK_of {l : List Oper} (h : chainN l 0 none = true) : ChainOK l.toArray :=
  ⟨fun k j ok oj hkj hok hoj hks hjs => chainN_spec (ops := l.toArray) l 0 none (by simp) (by intro p hp; cases hp) (by intro _ j o hj; omega) h j oj (Nat.zero_le _) hoj hjs k ok hkj hok hks⟩

end Go.Proofs.YtgkojdbepgonkaaDoor
