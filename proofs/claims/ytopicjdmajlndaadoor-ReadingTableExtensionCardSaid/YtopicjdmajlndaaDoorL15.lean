/- Several texts in one: JApp, JMpa, JLin, JMpf, JNsl, JNbit, JMpe, JMra, JRefC, Rj, Ri, Rl. -/
import Derived.OwnWalk
import Derived.Laws.AppendOwnNone
import Derived.Test.YtopicjdmajlndaaDoorL14
import Derived.IntWalk
import Derived.Deep.LoopGhost
import Derived.RangeFuncNested
import Derived.RangeFuncBound
import Derived.RangeFuncCalls
import Derived.RangeFuncLeaves
import Derived.RangeFuncBox
import Derived.Shelf.Abstract
import Derived.Shelf.RegionOpen
import Derived.OwnWalkIn
import Derived.TacticsInMore
import Derived.LoopNIn
import Derived.LoopIn
import Derived.Laws.EntriesVeiled
import Derived.Sort.QuietThIn
import Derived.Sort.BigQuietIn
import Derived.Laws.MakeOwn
import Derived.Laws.AppendOwn
import Derived.Laws.OwnMore
import Derived.ArgAppend
import Derived.Laws.Bits64
import Derived.Test.YtopicjdmajlndaaDoorL13
import Derived.Test.YtopicjdmajlndaaDoorRows
import Derived.Test.YtopicjdmajlndaaDoorTie
import Derived.ProofKit
import Derived.OpenShut
import Derived.ChangeOld
import Derived.ChangeSlices
import Derived.Below
import Derived.Lib.SmallJoins
import Derived.Lib.LaidTab
import Derived.LaidMore
import Derived.Deep.Slices
namespace Go.Proofs.YtopicjdmajlndaaDoor.J
set_option linter.unusedVariables false
set_option linter.unusedSimpArgs false
set_option linter.unusedSectionVars false
set_option maxRecDepth 8000
open Go.RowKit Gold

theorem ownsRow_keep {w w' : World} {base : Nat} {e : TypeId} {size : Nat} {v : Value} {n : Nat} {xs : List Value} (h : w.ownsRow base e size v n xs) (hb : Below w.heap.size w w') : w'.ownsRow base e size v n xs := by
  refine ⟨h.1, ?_⟩
  rcases h.2 with hn | ⟨g, cap, cur, rfl, hbs, hgg, rest⟩
  · exact .inl hn
  · exact .inr ⟨g, cap, cur, rfl, hbs, heap_keep hgg hb, rest⟩
theorem ownsRow_setCell {w : World} {base : Nat} {e : TypeId} {size : Nat} {v : Value} {n : Nat} {xs : List Value} (h : w.ownsRow base e size v n xs) {a : Addr} (x : Value) (hne : v.ownBlock ≠ some a.block) : (w.setCell a x).ownsRow base e size v n xs := by
  refine ⟨h.1, ?_⟩
  rcases h.2 with hn | ⟨g, cap, cur, rfl, hbs, hgg, rest⟩
  · exact .inl hn
  · refine .inr ⟨g, cap, cur, rfl, hbs, ?_, rest⟩
    exact (Below.heap_setCell w a x g (by simpa [Value.ownBlock] using hne)).trans hgg

/-- a slice of the call's own that holds xs -/
def OwE (w : World) (base : Nat) (v : Value) (n : Nat) (xs : List E2) : Prop := w.ownsRow base 63 2 v n (cellsE xs)
section
variable {w w' : World} {base : Nat} {v : Value} {n : Nat} {xs : List E2}
theorem OwE.keep (h : OwE w base v n xs) (hb : Below w.heap.size w w') : OwE w' base v n xs := ownsRow_keep h hb
theorem OwE.len (h : OwE w base v n xs) : n = xs.length := by
  have := h.1
  rw [cellsE_length] at this
  omega
theorem OwE.sl (h : OwE w base v n xs) : ∃ A c, v = .slice A n c ∧ Sl w A n c xs := by
  have hn := h.len
  rcases h.2 with ⟨rfl, rfl⟩ | ⟨g, cap, cur, rfl, hb, hg, hc, hm, hs, ht⟩
  · refine ⟨none, 0, rfl, ?_⟩
    have : xs = [] := List.eq_nil_of_length_eq_zero hn.symm
    subst this
    exact Sl.nil _
  · unfold maxLen at hm
    refine ⟨_, cap, rfl, by simpa using hn, hc, by omega, (fun e => by cases e), fun i p hp => ⟨_, rfl, ?_⟩⟩
    rw [List.getElem?_map] at hp
    cases hx : xs[i]? with
    | none => rw [hx] at hp; cases hp
    | some x =>
      rw [hx] at hp
      injection hp with hp
      subst hp
      have hl := (List.getElem?_eq_some_iff.1 hx).1
      have key : ∀ k u, (cellsE xs)[k]? = some u → w.cell? ⟨g, k, none⟩ = some u := fun k u hu => by
        rw [← ht] at hu
        have hk := (List.getElem?_eq_some_iff.1 hu).1
        rw [List.getElem?_take_of_lt (by simp at hk; omega)] at hu
        simpa [World.cell?, hg] using hu
      unfold AtV
      rw [add_base]
      exact ⟨key _ _ (cellsE_even hx), key _ _ (cellsE_odd hx)⟩
theorem OwE.far (h : OwE w base v n xs) {a : Addr} (x : Value) (e : a.block < base) : OwE (w.setCell a x) base v n xs :=
  ownsRow_setCell h x (fun k => by have := (World.ownsRow.lt h _ k).1; omega)
theorem OwE.made (w : World) (base : Nat) (hb : base ≤ w.heap.size) : OwE (w.alloc (.cells #[] 63)) base (.slice (some ⟨w.heap.size, 0, none⟩) 0 0) 0 [] := World.ownsRow_made w #[] 0 hb (Nat.zero_le _) rfl
theorem OwE.one (w : World) (base : Nat) (hb : base ≤ w.heap.size) (x : E2) : OwE (w.alloc (.cells #[.int .u64 (vF x.A), .int .u64 (vF x.B)] 63)) base (.slice (some ⟨w.heap.size, 0, none⟩) 1 1) 1 [x] :=
  ⟨rfl, .inr ⟨w.heap.size, 1, _, rfl, hb, heap_alloc_new w _, Nat.le_refl _, by unfold maxLen; omega, rfl, rfl⟩⟩
end

/-- append(s, y), y in a block of its own -/
theorem wpList_appendE {ops : Array Oper} {rest : List Oper} {o : Oper} {a : Act} {Q : Exit → Act → World → Prop} {w : World} (hgd : o.guard = none) (s x : Operand)
    (ho : o.op = .call { callee := .builtin .append, args := #[s, x], argTypes := #[60, 60] }) (base : Nat) (v : Value) (n : Nat) (xs : List E2) (hs : a.eval s = v) (hown : OwE w base v n xs)
    (g c : Nat) (y : E2) (hx : a.eval x = .slice (some ⟨g, 0, none⟩) 1 c) (hy : Two w g 63 (.int .u64 (vF y.A)) (.int .u64 (vF y.B))) (hn : n ≤ 65536) (hbase : base ≤ w.heap.size)
    (h : ∀ v' w', OwE w' base v' (n + 1) (xs ++ [y]) → w.grownBy w' v.ownBlock → wpList Tryd.prog ops Q rest (a.put o.dst v') w') : wpList Tryd.prog ops Q (o :: rest) a w := by
  obtain ⟨i, hi, hz, hs2, hb⟩ := info_parts ext_info
  refine wpList_append_own w hgd s x 60 ho base 63 i (.agg #[.int .u64 0, .int .u64 0]) 2 16 Tryd.underlying60 hi hz hs2 hb rfl (by omega) v n (cellsE xs) hs hown ⟨g, 0, none⟩ 1 c [.int .u64 (vF y.A), .int .u64 (vF y.B)] hx rfl ?_ ?_ ?_ ?_ hbase ?_
  · intro j u hj
    rw [add_base]
    match j, hj with
    | 0, hj => injection hj with hj; subst hj; exact hy.c0
    | 1, hj => injection hj with hj; subst hj; exact hy.c1
    | j + 2, hj => simp at hj
  · intro u hu
    simp at hu
    rcases hu with rfl | rfl <;> rfl
  · unfold maxLen; omega
  · omega
  · intro v' w' hown' hg _
    refine h v' w' ?_ hg
    unfold OwE
    rw [cellsE_append]
    exact hown'
/-- a slice value that reads as the integers ls -/
structure Si (w : World) (A : Option Addr) (n c : Nat) (ls : List Nat) : Prop where
  len : n = ls.length
  cap : n ≤ c
  top : c ≤ 9223372036854775807
  cells : ∀ (i k : Nat), ls[i]? = some k → ∃ ad, A = some ad ∧ w.cell? (ad.add i) = some (.int .i64 (k : Int))
theorem Si.keep {w w' : World} {A : Option Addr} {n c : Nat} {ls : List Nat} (h : Si w A n c ls) (hb : Below w.heap.size w w') : Si w' A n c ls :=
  ⟨h.len, h.cap, h.top, fun i k hk => by obtain ⟨ad, e, hc⟩ := h.cells i k hk; exact ⟨ad, e, cell_keep hc hb⟩⟩
section
variable {w w' : World} {base : Nat} {v : Value} {n : Nat} {ls : List Nat}
end
theorem below_grown {w0 w w' : World} {base : Nat} {e : TypeId} {size : Nat} {v : Value} {n : Nat} {xs : List Value} (hb : Below w0.heap.size w0 w) (hg : w.grownBy w' v.ownBlock) (hown : w.ownsRow base e size v n xs) (hbase : w0.heap.size ≤ base) : Below w0.heap.size w0 w' :=
  hb.grown hg hb.size fun k hk => Nat.le_trans hbase (hown.lt k hk).1
end Go.Proofs.YtopicjdmajlndaaDoor.J

namespace Go.Proofs.YtopicjdmajlndaaDoor.J
set_option linter.unusedVariables false
set_option linter.unusedSimpArgs false
set_option linter.unusedSectionVars false
set_option maxRecDepth 8000
open Go.RowKit Gold

section
variable {w w' : World} {g : Nat} {xs : List E2}
end
set_option maxHeartbeats 1000000 in
theorem rFactor_any (x y : E2) (w : World) :
    Calls Tryd.prog 69 #[.agg #[.int .u64 (vF x.A), .int .u64 (vF x.B)], .agg #[.int .u64 (vF y.A), .int .u64 (vF y.B)]] w fun e w' => e = .returned (.agg #[.int .u64 (vF (agr x y).A), .int .u64 (vF (agr x y).B)]) ∧ Below w.heap.size w w' := by
  go_enter Tryd.func69, Tryd.ntmps69
  go_wp2_with fail
  refine calls_named3 (fun W hB g0 g1 g2 hz => ?_)
  have HB := Lib.hid hB
  have H0 := Lib.hid (show Two W w.heap.size 63 (.int .u64 (vF x.A)) (.int .u64 (vF x.B)) from g0)
  have H1 := Lib.hid (show Two W (w.heap.size + 1) 63 (.int .u64 (vF y.A)) (.int .u64 (vF y.B)) from g1)
  have H2 := Lib.hid (show Two W (w.heap.size + 1 + 1) 63 (.int .u64 0) (.int .u64 0) from g2)
  clear hB g0 g1 g2
  refine (rOne_any W).mono ?_
  rintro e W1 ⟨rfl, hb⟩
  replace HB := Lib.hid (below_step HB.out hb)
  replace H0 := Lib.hid (H0.out.keep hb)
  replace H1 := Lib.hid (H1.out.keep hb)
  replace H2 := Lib.hid (H2.out.keep hb)
  clear hb
  go_wp2_with fail
  refine wp_named1 (fun V hbV g3 hzV => ?_)
  replace HB := Lib.hid (below_step HB.out hbV)
  replace H0 := Lib.hid (H0.out.keep hbV)
  replace H1 := Lib.hid (H1.out.keep hbV)
  replace H2 := Lib.hid (H2.out.keep hbV)
  have H3 := Lib.hid (show Two V W1.heap.size 63 (.int .u64 (vF E2.one.A)) (.int .u64 (vF E2.one.B)) from g3)
  clear hbV g3
  have c20 := H2.out.c0; have c21 := H2.out.c1; have f20 := H2.out.f0; have f21 := H2.out.f1
  have l00 := Later.cell H0.out.c0; have l01 := Later.cell H0.out.c1; have l10 := Later.cell H1.out.c0; have l11 := Later.cell H1.out.c1; have l30 := Later.cell H3.out.c0; have l31 := Later.cell H3.out.c1
  refine wp_later_tail 11 (by kernel_rfl) (by kernel_rfl) ?_
  simp only [List.take_succ_cons, List.take_zero, List.drop_succ_cons, List.drop_zero]
  repeat (go_big_quiet_step (first
    | (go_at_call 73; with_reducible exact Calls.later (rSub_any E2.one x _))
    | (go_at_call 73; with_reducible exact Calls.later (rSub_any E2.one y _))
    | (go_at_call 37; with_reducible exact Calls.later (rMul_any x y _))
    | (go_at_call 37; with_reducible exact Calls.later (rMul_any (E2.one - x) (E2.one - y) _))
    | (go_at_call 36; with_reducible exact Calls.later (rAdd_any (x * y) ((E2.one - x) * (E2.one - y)) _))))
  refine wpQuiet_nil ?_
  intro X
  clear l00 l01 l10 l11 l30 l31
  have hb := X.below
  replace f20 := free_after hb c20 f20; replace f21 := free_after hb c21 f21; replace c20 := cell_after hb c20; replace c21 := cell_after hb c21
  replace HB := Lib.hid (HB.out.trans (hb.mono HB.out.size))
  clear hb
  go_wp2
  exact bodyPost_ret (v := .agg #[.int .u64 (vF (agr x y).A), .int .u64 (vF (agr x y).B)]) (by simp [results, Tryd.results69, go_sem, c20, c21, agr]) rfl ⟨rfl, (HB.out.setCell (by simp; try omega) _).setCell (by simp; try omega) _⟩

end Go.Proofs.YtopicjdmajlndaaDoor.J

namespace Go.Proofs.YtopicjdmajlndaaDoor.J
set_option linter.unusedVariables false
set_option linter.unusedSimpArgs false
set_option linter.unusedSectionVars false
set_option maxRecDepth 8000
open Go.RowKit

section
variable {F : Fence} {m : Nat} {P : Program} {ops : Array Oper} {md : Region.Mode} {C : World → Prop}

end

section
variable {F : Fence} {m : Nat} {P : Program} {w : World}
/-- a callee that only adds to memory, inside the fence -/
theorem CallsIn.later {f : FuncId} {args : Array Value} {v : Value} {k : Nat} {x : Later w} (h : CallsIn F k P f args x.at fun e w' => e = .returned v ∧ Below x.at.heap.size x.at w') : CallsIn F k P f args x.at fun e w'' => e = .returned v ∧ ∃ y : Later w, w'' = y.at :=
  h.mono fun _ _ ⟨he, hb⟩ => ⟨he, ⟨⟨_, x.2.trans (hb.mono x.2.size)⟩, rfl⟩⟩
end

end Go.Proofs.YtopicjdmajlndaaDoor.J

namespace Go.Proofs.YtopicjdmajlndaaDoor.J
set_option linter.unusedVariables false
set_option linter.unusedSimpArgs false
set_option linter.unusedSectionVars false
set_option maxRecDepth 8000
open Go.RowKit Gold
open Go.Shelf
attribute [local go_sem] Oper.semAt_some

theorem zip_take_succ {α β γ : Type} {f : α → β → γ} {xs : List α} {ys : List β} {k : Nat} {x : α} {y : β} (hx : xs[k]? = some x) (hy : ys[k]? = some y) : List.zipWith f (xs.take (k + 1)) (ys.take (k + 1)) = List.zipWith f (xs.take k) (ys.take k) ++ [f x y] := by
  obtain ⟨h1, e1⟩ := List.getElem?_eq_some_iff.1 hx
  obtain ⟨h2, e2⟩ := List.getElem?_eq_some_iff.1 hy
  rw [List.take_succ_eq_append_getElem h1, List.take_succ_eq_append_getElem h2, List.zipWith_append (by simp; omega), e1, e2]
  rfl
end Go.Proofs.YtopicjdmajlndaaDoor.J

namespace Go.Proofs.YtopicjdmajlndaaDoor.J
set_option linter.unusedVariables false
set_option linter.unusedSimpArgs false
set_option linter.unusedSectionVars false
set_option maxRecDepth 8000
open Go.RowKit Gold

theorem bel_step {w W W1 : World} (h : Below w.heap.size w W) (h1 : Below W.heap.size W W1) : Below w.heap.size w W1 := h.trans (h1.mono h.size)
theorem ad_base (g k : Nat) : (⟨g, 0, none⟩ : Addr).add k = ⟨g, k, none⟩ := by rw [Addr.add_lit, Nat.zero_add]
theorem ad_add (a : Addr) (i j : Nat) : (a.add i).add j = a.add (i + j) := by
  unfold Addr.add
  by_cases hi : i = 0 <;> by_cases hj : j = 0 <;> simp [hi, hj, Nat.add_assoc]
/-- a slice value that reads as the words zs -/
structure Su (w : World) (A : Option Addr) (n c : Nat) (zs : List Int) : Prop where
  len : n = zs.length
  cap : n ≤ c
  top : c ≤ 9223372036854775807
  nil : A = none → c = 0
  cells : ∀ i z, zs[i]? = some z → ∃ ad, A = some ad ∧ w.cell? (ad.add i) = some (.int .u64 z)
/-- a slice value that reads as the field elements xs -/
def Sf (w : World) (A : Option Addr) (n c : Nat) (xs : List F) : Prop := Su w A n c (xs.map vF)
section
variable {w w' : World} {A : Option Addr} {n c : Nat} {zs : List Int} {xs : List F}
theorem Su.keep (h : Su w A n c zs) (hb : Below w.heap.size w w') : Su w' A n c zs :=
  ⟨h.len, h.cap, h.top, h.nil, fun i z hz => by obtain ⟨ad, e, hc⟩ := h.cells i z hz; exact ⟨ad, e, cell_keep hc hb⟩⟩
theorem Sf.keep (h : Sf w A n c xs) (hb : Below w.heap.size w w') : Sf w' A n c xs := Su.keep h hb
theorem Sf.len (h : Sf w A n c xs) : n = xs.length := by simpa using Su.len h
theorem Sf.cap (h : Sf w A n c xs) : n ≤ c := Su.cap h
theorem Sf.top (h : Sf w A n c xs) : c ≤ 9223372036854775807 := Su.top h
theorem Su.at_ {i : Nat} {z : Int} (h : Su w A n c zs) (hz : zs[i]? = some z) : ∃ ad, A = some ad ∧ w.cell? (ad.add i) = some (.int .u64 z) := h.cells i z hz
theorem Sf.at_ {i : Nat} {x : F} (h : Sf w A n c xs) (hx : xs[i]? = some x) : ∃ ad, A = some ad ∧ w.cell? (ad.add i) = some (.int .u64 (vF x)) := Su.cells h i (vF x) (by simp [hx])
theorem Su.get {i : Nat} (h : Su w A n c zs) (hi : i < n) : ∃ z, zs[i]? = some z := ⟨zs[i]'(by have := h.len; omega), List.getElem?_eq_getElem _⟩
theorem Sf.get {i : Nat} (h : Sf w A n c xs) (hi : i < n) : ∃ x, xs[i]? = some x := ⟨xs[i]'(by have := h.len; omega), List.getElem?_eq_getElem _⟩
theorem Su.take (h : Su w A n c zs) {k : Nat} (hk : k ≤ n) : Su w A k c (zs.take k) := by
  refine ⟨by have := h.len; simp; omega, by have := h.cap; omega, h.top, h.nil, fun i z hz => h.cells i z ?_⟩
  have hl := (List.getElem?_eq_some_iff.1 hz).1
  rw [List.getElem?_take_of_lt (by simp at hl; omega)] at hz
  exact hz
theorem Su.cut {k d : Nat} (h : Su w A n c zs) (hk : k ≤ n) (hd : k ≤ d) (hc : d ≤ c) (h0 : A = none → d = 0) : Su w A k d (zs.take k) := by
  have h1 := h.take hk
  exact ⟨h1.len, hd, by have := h.top; omega, h0, h1.cells⟩
theorem Sf.cut {k d : Nat} (h : Sf w A n c xs) (hk : k ≤ n) (hd : k ≤ d) (hc : d ≤ c) (h0 : A = none → d = 0) : Sf w A k d (xs.take k) := by
  have h1 := Su.cut h hk hd hc h0
  rw [← List.map_take] at h1
  exact h1
theorem Sf.nil (w : World) : Sf w none 0 0 [] := ⟨rfl, Nat.le_refl _, Nat.zero_le _, fun _ => rfl, fun i p hp => by simp at hp⟩
end

section
variable {w w' : World} {g : Nat} {xs : List F}
end
section
variable {w w' : World} {base : Nat} {v : Value} {n : Nat} {xs : List F}
end
end Go.Proofs.YtopicjdmajlndaaDoor.J

namespace Go.Proofs.YtopicjdmajlndaaDoor.J
set_option linter.unusedVariables false
set_option linter.unusedSimpArgs false
set_option linter.unusedSectionVars false
set_option maxRecDepth 8000
open Go.RowKit Gold

theorem bits_and_i64_nat (a b : Nat) (ha : a < 9223372036854775808) (hb : b < 9223372036854775808) :
    bits .and .i64 (a : Int) (b : Int) = ((a &&& b : Nat) : Int) := by
  have hx : a &&& b < 2 ^ 63 := Nat.and_lt_two_pow _ (by omega)
  have h1 : (BitVec.ofInt 64 (a : Int)).toNat = a := by
    rw [BitVec.ofInt_natCast, BitVec.toNat_ofNat]; exact Nat.mod_eq_of_lt (by omega)
  have h2 : (BitVec.ofInt 64 (b : Int)).toNat = b := by
    rw [BitVec.ofInt_natCast, BitVec.toNat_ofNat]; exact Nat.mod_eq_of_lt (by omega)
  show IntKind.i64.wrap ((BitVec.ofInt 64 (a : Int) &&& BitVec.ofInt 64 (b : Int)).toNat : Int) = _
  rw [BitVec.toNat_and, h1, h2, IntKind.wrap_i64]
  omega
end Go.Proofs.YtopicjdmajlndaaDoor.J

namespace Go.Proofs.YtopicjdmajlndaaDoor.J
set_option linter.unusedVariables false
set_option linter.unusedSimpArgs false
set_option linter.unusedSectionVars false
set_option maxRecDepth 8000
open Go.RowKit Gold

theorem shr_and (i k : Nat) (hi : i < 9223372036854775808) : bits .and .i64 ((i : Int) / 2 ^ k) 1 = ((i / 2 ^ k % 2 : Nat) : Int) := by
  have e : ((i : Int) / 2 ^ k) = ((i / 2 ^ k : Nat) : Int) := by rw [Int.natCast_ediv, Int.natCast_pow]; rfl
  have hl : i / 2 ^ k ≤ i := Nat.div_le_self _ _
  have h := bits_and_i64_nat (i / 2 ^ k) 1 (by omega) (by omega)
  rw [e, ← Nat.and_one_is_mod]
  exact h
theorem rFromBit (i k : Nat) (w : World) (hi : i ≤ 4611686018427387904) : Calls Tryd.prog 70 #[.int .i64 (bits .and .i64 ((i : Int) / 2 ^ k) 1)] w fun e w' => e = .returned (.agg #[.int .u64 (vF (bitE (i / 2 ^ k)).A), .int .u64 (vF (bitE (i / 2 ^ k)).B)]) ∧ Below w.heap.size w w' := by
  rw [shr_and i k (by omega)]
  exact rFromInt_any _ w (by omega) (by omega)
set_option maxHeartbeats 1000000 in
theorem rVertex_any (i n : Nat) (w : World) (hi : i ≤ 4611686018427387904) (hn : n ≤ 62) :
    Calls Tryd.prog 56 #[.int .i64 (i : Int), .int .i64 (n : Int)] w fun e w' => ∃ A c, e = .returned (.slice A n c) ∧ Sl w' A n c (vtx i n) ∧ Below w.heap.size w w' := by
  go_enter Tryd.func56, Tryd.ntmps56
  go_wp2_with fail
  go_loopw [5, 6] (fun v s wr => ∃ k : Nat, k ≤ n ∧ s = .int .i64 k ∧ OwE wr w.heap.size v k (tabE k fun k => bitE (i / 2 ^ k)) ∧ Below w.heap.size w wr) (fun _ s _ => n - (intOf s).toNat)
  case atStart => exact ⟨0, Nat.zero_le _, rfl, OwE.made w w.heap.size (Nat.le_refl _), (Below.refl _ _).alloc (Nat.le_refl _) _⟩
  case round =>
    obtain ⟨k, hk, rfl, ho, hb⟩ := hrel
    have HO := Lib.hid ho
    have HB := Lib.hid hb
    clear ho hb
    by_cases hlt : k < n
    · have hk1 : (k : Int) < (n : Int) := by omega
      have hk0 : (0 : Int) ≤ (k : Int) := by omega
      go_wp2_with fail
      have hfb := rFromBit i k wr hi
      with_reducible refine hfb.mono ?_
      rintro e W1 ⟨rfl, hb⟩
      have HO1 := Lib.hid (HO.out.keep hb)
      have HB1 := Lib.hid (below_step HB.out hb)
      clear hb
      go_wp2_with (at_builtin; refine wpList_appendE rfl (.tmp 13) (.tmp 19) rfl (w.heap.size) _ k _ rfl (HO1.out.keep ((Below.refl _ _).alloc (Nat.le_refl _) _)) W1.heap.size 1 (bitE (i / 2 ^ k)) rfl (Two.new W1 _ _ _) (by omega) (by have := HB1.out.size; simp; omega) ?_; intro v1 w1 hown1 hg1; have HO2 := Lib.hid hown1; have HB2 := Lib.hid (below_grown (w0 := w) (HB1.out.alloc HB1.out.size _) hg1 (HO1.out.keep ((Below.refl _ _).alloc (Nat.le_refl _) _)) (Nat.le_refl _)); clear hown1 hg1)
      go_roundw
      case rel => exact ⟨k + 1, by omega, by go_num, by rw [tabE_succ]; exact HO2.out, HB2.out⟩
      case measure => simp [intOf]; omega
    · have hkn : k = n := by omega
      subst hkn
      obtain ⟨A1, c1, rfl, hs1⟩ := HO.out.sl
      have HSQ := Lib.hid hs1
      clear hs1
      go_wp2_with fail
      go_ret
      exact ⟨A1, c1, rfl, HSQ.out, HB.out⟩

end Go.Proofs.YtopicjdmajlndaaDoor.J

namespace Go.Proofs.YtopicjdmajlndaaDoor.J
set_option linter.unusedVariables false
set_option linter.unusedSimpArgs false
set_option linter.unusedSectionVars false
set_option maxRecDepth 8000
section
open Go.RowKit Gold

set_option maxHeartbeats 2000000 in
theorem rEq_any (A : Option Addr) (n c : Nat) (xs : List E2) (B : Option Addr) (m d : Nat) (ys : List E2) (w : World) (h : Sl w A n c xs) (h' : Sl w B m d ys) (hnm : n = m) :
    Calls Tryd.prog 55 #[.slice A n c, .slice B m d] w fun e w' => e = .returned (.agg #[.int .u64 (vF (eqE xs ys).A), .int .u64 (vF (eqE xs ys).B)]) ∧ Below w.heap.size w w' := by
  subst hnm
  have hcap := h.cap
  have htop := h.top
  have HS := Lib.hid h
  have HT := Lib.hid h'
  clear h h'
  go_enter Tryd.func55, Tryd.ntmps55
  go_wp2_with fail
  refine calls_named1 (fun V hbV g0 hzV => ?_)
  have HZ := Lib.hid (show Two V w.heap.size 63 (.int .u64 0) (.int .u64 0) from g0)
  have HB := Lib.hid hbV
  clear g0 hbV
  refine (rOne_any V).mono ?_
  rintro e W1 ⟨rfl, hb⟩
  have HZ1 := Lib.hid (HZ.out.keep hb)
  have HB1 := Lib.hid (below_step HB.out hb)
  clear hb HZ HB
  go_wp2_with fail
  refine wp_named1 (fun V2 hbV g0 hzV2 => ?_)
  have HO2 := Lib.hid (show Two V2 W1.heap.size 63 (.int .u64 (vF E2.one.A)) (.int .u64 (vF E2.one.B)) from g0)
  have HZ2 := Lib.hid (HZ1.out.keep hbV)
  have HB2 := Lib.hid (below_step HB1.out hbV)
  have hlz : w.heap.size < W1.heap.size := HZ1.out.lt
  clear g0 hbV HZ1 HB1
  generalize W1.heap.size = b5 at *
  go_loopw [6] (fun s wr => ∃ k : Nat, k ≤ n ∧ s = .int .i64 k ∧ Two wr b5 63 (.int .u64 (vF ((List.zipWith agr (xs.take k) (ys.take k)).foldl (· * ·) E2.one).A)) (.int .u64 (vF ((List.zipWith agr (xs.take k) (ys.take k)).foldl (· * ·) E2.one).B)) ∧ Two wr w.heap.size 63 (.int .u64 0) (.int .u64 0) ∧ Below w.heap.size w wr) (fun s _ => n - (intOf s).toNat)
  case atStart => exact ⟨0, Nat.zero_le _, rfl, HO2.out, HZ2.out, HB2.out⟩
  case round =>
    clear HO2 HZ2 HB2
    obtain ⟨k, hk, rfl, ho, hz, hb⟩ := hrel
    have HZ := Lib.hid hz
    have HB := Lib.hid hb
    clear hz hb
    by_cases hlt : k < n
    · obtain ⟨x, hx⟩ := HS.out.get hlt
      obtain ⟨ad, rfl, p0, p1⟩ := (HS.out.keep HB.out).at_ hx
      obtain ⟨y, hy⟩ := HT.out.get hlt
      obtain ⟨ad2, rfl, q0, q1⟩ := (HT.out.keep HB.out).at_ hy
      have HE := Lib.hid (zip_take_succ (f := agr) hx hy)
      generalize hq : (List.zipWith agr (xs.take k) (ys.take k)).foldl (· * ·) E2.one = q at ho
      have HQ := Lib.hid hq
      have HO := Lib.hid ho
      clear hx hy hq ho
      have l0 := Later.cell HO.out.c0
      have l1 := Later.cell HO.out.c1
      have l4 := Later.cell p0
      have l5 := Later.cell p1
      have l6 := Later.cell q0
      have l7 := Later.cell q1
      clear p0 p1 q0 q1
      have hk0 : (0 : Int) ≤ (k : Int) := by omega
      have hk1 : (k : Int) < (n : Int) := by omega
      go_wp2_with fail
      refine wp_later_tail 11 (by kernel_rfl) (by kernel_rfl) ?_
      simp only [List.take_succ_cons, List.take_zero, List.drop_succ_cons, List.drop_zero]
      repeat (go_big_quiet_step (first
        | (go_at_call 69; with_reducible exact Calls.later (rFactor_any x y _))
        | (go_at_call 37; with_reducible exact Calls.later (rMul_any q (agr x y) _))))
      refine wpQuiet_nil ?_
      intro X
      clear l0 l1 l4 l5 l6 l7
      have HO1 := Lib.hid (HO.out.keep X.below)
      have HZ1 := Lib.hid (HZ.out.keep X.below)
      have HB1 := Lib.hid (below_step HB.out X.below)
      have c0 := HO1.out.c0
      have c1 := HO1.out.c1
      have f0 := HO1.out.f0
      have f1 := HO1.out.f1
      go_wp2_with fail
      go_roundw
      case rel => exact ⟨k + 1, by omega, by go_num, by rw [HE.out, List.foldl_append, HQ.out]; exact (HO1.out.set0 _).set1 _, (HZ1.out.far _ (by simp; omega)).far _ (by simp; omega), (HB1.out.setCell (by simp; omega) _).setCell (by simp; omega) _⟩
      case measure => simp [intOf]; omega
    · have hkn : k = n := by omega
      subst hkn
      rw [List.take_of_length_le (by have := HS.out.len; omega), List.take_of_length_le (by have := HT.out.len; omega)] at ho
      generalize hq : (List.zipWith agr xs ys).foldl (· * ·) E2.one = q at ho
      have HQ := Lib.hid (show eqE xs ys = q from hq)
      clear hq
      have c0 := ho.c0
      have c1 := ho.c1
      have z0 := HZ.out.c0
      have z1 := HZ.out.c1
      have f0 := HZ.out.f0
      have f1 := HZ.out.f1
      clear ho
      go_wp2_with fail
      exact bodyPost_ret (v := .agg #[.int .u64 (vF q.A), .int .u64 (vF q.B)]) (by simp [results, Tryd.results55, go_sem, z0, z1]) rfl ⟨by rw [HQ.out], (HB.out.setCell (Nat.le_refl _) _).setCell (Nat.le_refl _) _⟩

set_option maxHeartbeats 1000000 in
theorem rEqIndex_any (i : Nat) (B : Option Addr) (m d : Nat) (ps : List E2) (w : World) (h : Sl w B m d ps) (hi : i ≤ 4611686018427387904) (hm : m ≤ 16) :
    Calls Tryd.prog 38 #[.int .i64 (i : Int), .slice B m d] w fun e w' => e = .returned (.agg #[.int .u64 (vF (eqW i ps).A), .int .u64 (vF (eqW i ps).B)]) ∧ Below w.heap.size w w' := by
  have HP := Lib.hid h
  have HL := Lib.hid h.len
  clear h
  go_enter Tryd.func38, Tryd.ntmps38
  go_wp2_with fail
  refine calls_named1 (fun V hbV g0 hzV => ?_)
  have HZ := Lib.hid (show Two V w.heap.size 63 (.int .u64 0) (.int .u64 0) from g0)
  have HB := Lib.hid hbV
  clear g0 hbV
  refine (rVertex_any i m V hi (by omega)).mono ?_
  rintro e W1 ⟨A1, c1, rfl, hr, hb⟩
  have HZ1 := Lib.hid (HZ.out.keep hb)
  have HB1 := Lib.hid (below_step HB.out hb)
  have HV1 := Lib.hid hr
  clear hr hb HZ HB
  go_wp2_with fail
  refine (rEq_any _ _ _ _ _ _ _ _ _ HV1.out (HP.out.keep HB1.out) rfl).mono ?_
  rintro e W2 ⟨rfl, hb⟩
  have HZ2 := Lib.hid (HZ1.out.keep hb)
  have HB2 := Lib.hid (below_step HB1.out hb)
  clear hb
  rw [eqE_vtx' ps i m HL.out.symm]
  have c0 := HZ2.out.c0
  have c1 := HZ2.out.c1
  have f0 := HZ2.out.f0
  have f1 := HZ2.out.f1
  go_wp2_with fail
  exact bodyPost_ret (v := .agg #[.int .u64 (vF (eqW i ps).A), .int .u64 (vF (eqW i ps).B)]) (by simp [results, Tryd.results38, go_sem, c0, c1]) rfl ⟨rfl, (HB2.out.setCell (Nat.le_refl _) _).setCell (Nat.le_refl _) _⟩

set_option maxHeartbeats 2000000 in
theorem rEval_any (A : Option Addr) (n c : Nat) (xs : List E2) (B : Option Addr) (m d : Nat) (ps : List E2) (w : World) (h : Sl w A n c xs) (h' : Sl w B m d ps) (hn : n = 2 ^ m) (hm : m ≤ 16) :
    Calls Tryd.prog 39 #[.slice A n c, .slice B m d] w fun e w' => e = .returned (.agg #[.int .u64 (vF (mleE xs ps).A), .int .u64 (vF (mleE xs ps).B)]) ∧ Below w.heap.size w w' := by
  have hcap := h.cap
  have htop := h.top
  have hn1 : n ≤ 65536 := by rw [hn]; exact Nat.pow_le_pow_right (n := 2) (by omega) hm
  have HS := Lib.hid h
  have HP := Lib.hid h'
  have HE := Lib.hid (show sumE n (fun i => cfE xs i * eqW i ps) = mleE xs ps by unfold mleE; rw [mleF_sum, hn, ← h'.len])
  clear h h' hn
  go_enter Tryd.func39, Tryd.ntmps39
  go_wp2_with fail
  refine wp_named2 (fun V hbV g0 g1 hzV => ?_)
  have HZ := Lib.hid (show Two V w.heap.size 63 (.int .u64 0) (.int .u64 0) from g0)
  have HO := Lib.hid (show Two V (w.heap.size + 1) 63 (.int .u64 0) (.int .u64 0) from g1)
  have HB := Lib.hid hbV
  clear g0 g1 hbV
  go_loopw [6] (fun s wr => ∃ k : Nat, k ≤ n ∧ s = .int .i64 k ∧ Two wr (w.heap.size + 1) 63 (.int .u64 (vF (sumE k (fun i => cfE xs i * eqW i ps)).A)) (.int .u64 (vF (sumE k (fun i => cfE xs i * eqW i ps)).B)) ∧ Two wr w.heap.size 63 (.int .u64 0) (.int .u64 0) ∧ Below w.heap.size w wr) (fun s _ => n - (intOf s).toNat)
  case atStart => exact ⟨0, Nat.zero_le _, rfl, HO.out, HZ.out, HB.out⟩
  case round =>
    clear HO HZ HB
    obtain ⟨k, hk, rfl, ho, hz, hb⟩ := hrel
    have HZ := Lib.hid hz
    have HB := Lib.hid hb
    clear hz hb
    by_cases hlt : k < n
    · obtain ⟨x, hx⟩ := HS.out.get hlt
      obtain ⟨ad, rfl, p0, p1⟩ := (HS.out.keep HB.out).at_ hx
      have HX := Lib.hid (cfE_some hx)
      generalize hq : sumE k (fun i => cfE xs i * eqW i ps) = q at ho
      have HQ := Lib.hid hq
      have HO := Lib.hid ho
      clear hx hq ho
      have l0 := Later.cell HO.out.c0
      have l1 := Later.cell HO.out.c1
      have l4 := Later.cell p0
      have l5 := Later.cell p1
      clear p0 p1
      have hk0 : (0 : Int) ≤ (k : Int) := by omega
      have hk1 : (k : Int) < (n : Int) := by omega
      go_wp2_with fail
      refine wp_later_tail 10 (by kernel_rfl) (by kernel_rfl) ?_
      simp only [List.take_succ_cons, List.take_zero, List.drop_succ_cons, List.drop_zero]
      repeat (go_big_quiet_step (first
        | (go_at_call 38; with_reducible exact Calls.later (rEqIndex_any k B m d ps _ ((HP.out.keep HB.out).keep (Later.below _)) (by omega) hm))
        | (go_at_call 37; with_reducible exact Calls.later (rMul_any x (eqW k ps) _))
        | (go_at_call 36; with_reducible exact Calls.later (rAdd_any q (x * eqW k ps) _))))
      refine wpQuiet_nil ?_
      intro X
      clear l0 l1 l4 l5
      have HO1 := Lib.hid (HO.out.keep X.below)
      have HZ1 := Lib.hid (HZ.out.keep X.below)
      have HB1 := Lib.hid (below_step HB.out X.below)
      have c0 := HO1.out.c0
      have c1 := HO1.out.c1
      have f0 := HO1.out.f0
      have f1 := HO1.out.f1
      go_wp2_with fail
      go_roundw
      case rel => exact ⟨k + 1, by omega, by go_num, by rw [sumE, HQ.out, HX.out]; exact (HO1.out.set0 _).set1 _, (HZ1.out.far _ (by simp)).far _ (by simp), (HB1.out.setCell (by simp) _).setCell (by simp) _⟩
      case measure => simp [intOf]; omega
    · have hkn : k = n := by omega
      subst hkn
      rw [HE.out] at ho
      have c0 := ho.c0
      have c1 := ho.c1
      have z0 := HZ.out.c0
      have z1 := HZ.out.c1
      have f0 := HZ.out.f0
      have f1 := HZ.out.f1
      clear ho
      go_wp2_with fail
      exact bodyPost_ret (v := .agg #[.int .u64 (vF (mleE xs ps).A), .int .u64 (vF (mleE xs ps).B)]) (by simp [results, Tryd.results39, go_sem, z0, z1]) rfl ⟨rfl, (HB.out.setCell (Nat.le_refl _) _).setCell (Nat.le_refl _) _⟩

set_option maxHeartbeats 1000000 in
theorem rLift_any (A : Option Addr) (n c : Nat) (xs : List F) (w : World) (h : Sf w A n c xs) (hn : n ≤ 65536) :
    Calls Tryd.prog 40 #[.slice A n c] w fun e w' => ∃ A' c', e = .returned (.slice A' n c') ∧ Sl w' A' n c' (xs.map E2.ofF) ∧ Below w.heap.size w w' := by
  have hcap := h.cap
  have htop := h.top
  have HS := Lib.hid h
  have HL := Lib.hid h.len
  clear h
  go_enter Tryd.func40, Tryd.ntmps40
  go_wp2_with fail
  go_loopw [3, 4] (fun v s wr => ∃ k : Nat, k ≤ n ∧ s = .int .i64 k ∧ OwE wr w.heap.size v k ((xs.take k).map E2.ofF) ∧ Below w.heap.size w wr) (fun _ s _ => n - (intOf s).toNat)
  case atStart => exact ⟨0, Nat.zero_le _, rfl, OwE.made w w.heap.size (Nat.le_refl _), (Below.refl _ _).alloc (Nat.le_refl _) _⟩
  case round =>
    obtain ⟨k, hk, rfl, ho, hb⟩ := hrel
    have HO := Lib.hid ho
    have HB := Lib.hid hb
    clear ho hb
    by_cases hlt : k < n
    · obtain ⟨x, hx⟩ := HS.out.get hlt
      obtain ⟨ad, rfl, h0⟩ := HS.out.at_ hx
      have k0 := cell_keep h0 HB.out
      have HX := Lib.hid hx
      clear hx h0
      have hk1 : (k : Int) < (n : Int) := by omega
      have hk0 : (0 : Int) ≤ (k : Int) := by omega
      go_wp2_with fail
      refine (rFromBase_any x _).mono ?_
      rintro e W1 ⟨rfl, hb⟩
      have HO1 := Lib.hid (HO.out.keep hb)
      have HB1 := Lib.hid (below_step HB.out hb)
      clear hb k0
      go_wp2_with (at_builtin; refine wpList_appendE rfl (.tmp 12) (.tmp 18) rfl (w.heap.size) _ k _ rfl (HO1.out.keep ((Below.refl _ _).alloc (Nat.le_refl _) _)) W1.heap.size 1 (E2.ofF x) rfl (Two.new W1 _ _ _) (by omega) (by have := HB1.out.size; simp; omega) ?_; intro v1 w1 hown1 hg1; have HO2 := Lib.hid hown1; have HB2 := Lib.hid (below_grown (w0 := w) (HB1.out.alloc HB1.out.size _) hg1 (HO1.out.keep ((Below.refl _ _).alloc (Nat.le_refl _) _)) (Nat.le_refl _)); clear hown1 hg1)
      go_roundw
      case rel => exact ⟨k + 1, by omega, by go_num, by rw [List.take_succ_eq_append_getElem (by have := HL.out; omega), List.map_append, (List.getElem?_eq_some_iff.1 HX.out).2]; exact HO2.out, HB2.out⟩
      case measure => simp [intOf]; omega
    · have hkn : k = n := by omega
      subst hkn
      obtain ⟨A1, c1, rfl, hs1⟩ := HO.out.sl
      have HSQ := Lib.hid hs1
      clear hs1
      go_wp2_with fail
      go_ret
      exact ⟨A1, c1, rfl, by have := HSQ.out; rw [HL.out, List.take_length, ← HL.out] at this; exact this, HB.out⟩
end

section
open Go.RowKit Gold

end

end Go.Proofs.YtopicjdmajlndaaDoor.J

namespace Go.Proofs.YtopicjdmajlndaaDoor.J
set_option linter.unusedVariables false
set_option linter.unusedSimpArgs false
set_option linter.unusedSectionVars false
set_option maxRecDepth 8000
open Go.RowKit Gold


/-- the element that is made of two numbers -/
def madeE (p : Int × Int) : E2 := toE p.1 p.2
/-- pairs of numbers that a program may hold -/
def Nums (ps : List (Int × Int)) : Prop := ∀ p, p ∈ ps → U64 p.1 ∧ U64 p.2
/-- a slice that came in -/
def Sr (w : World) (A : Option Addr) (n c : Nat) (ps : List (Int × Int)) : Prop := SlR w A n c (ps.map fun p => (.int .u64 p.1, .int .u64 p.2))
theorem Sr.len {w : World} {A : Option Addr} {n c : Nat} {ps : List (Int × Int)} (h : Sr w A n c ps) : n = ps.length := by simpa using SlR.len h
theorem Sr.keep {w w' : World} {A : Option Addr} {n c : Nat} {ps : List (Int × Int)} (h : Sr w A n c ps) (hb : Below w.heap.size w w') : Sr w' A n c ps := SlR.keep h hb
theorem Sr.at_ {w : World} {A : Option Addr} {n c : Nat} {ps : List (Int × Int)} {i : Nat} {p : Int × Int} (h : Sr w A n c ps) (hx : ps[i]? = some p) : ∃ ad, A = some ad ∧ w.cell? (ad.add (i * 2)) = some (.int .u64 p.1) ∧ w.cell? ⟨(ad.add (i * 2)).block, (ad.add (i * 2)).off + 1, none⟩ = some (.int .u64 p.2) := by
  obtain ⟨ad, e, h1, h2⟩ := SlR.cells h i (.int .u64 p.1, .int .u64 p.2) (by simp [hx])
  exact ⟨ad, e, h1, h2⟩
theorem Sr.get {w : World} {A : Option Addr} {n c : Nat} {ps : List (Int × Int)} {i : Nat} (h : Sr w A n c ps) (hi : i < n) : ∃ p, ps[i]? = some p := ⟨ps[i]'(by have := h.len; omega), List.getElem?_eq_getElem _⟩
theorem take_map_snoc {ps : List (Int × Int)} {k : Nat} {p : Int × Int} (h : ps[k]? = some p) : (ps.take (k + 1)).map madeE = (ps.take k).map madeE ++ [madeE p] := by
  obtain ⟨hl, he⟩ := List.getElem?_eq_some_iff.1 h
  rw [List.take_succ_eq_append_getElem hl, List.map_append, he]
  rfl

set_option maxHeartbeats 2000000 in
theorem rPMade_any (A : Option Addr) (n c : Nat) (ps : List (Int × Int)) (q : Nat) (w : World) (h : Sr w A n c ps) (hw : Nums ps) (hq : q ≤ 65536) :
    Calls Tryd.prog 52 #[.slice A n c, .int .i64 q] w fun e w' => ∃ A' m c', e = .returned (.slice A' m c') ∧ m ≤ q ∧ Sl w' A' m c' ((ps.take q).map madeE) ∧ OwE w' w.heap.size (.slice A' m c') m ((ps.take q).map madeE) ∧ Below w.heap.size w w' := by
  have hnc := SlR.cap h
  have hct := SlR.top h
  have HL := Lib.hid h.len
  have HW := Lib.hid hw
  have HS := Lib.hid h
  clear h hw
  go_enter Tryd.func52, Tryd.ntmps52
  go_wp2_with fail
  go_loopw [5, 6] (fun v i wr => ∃ k : Nat, k ≤ n ∧ k ≤ q ∧ i = .int .i64 k ∧ OwE wr w.heap.size v k ((ps.take k).map madeE) ∧ Below w.heap.size w wr) (fun _ i _ => n - (intOf i).toNat)
  case atStart => exact ⟨0, Nat.zero_le _, Nat.zero_le _, rfl, OwE.made w w.heap.size (Nat.le_refl _), (Below.refl _ _).alloc (Nat.le_refl _) _⟩
  case round =>
    obtain ⟨k, hk, hkq, rfl, ho, hb⟩ := hrel
    have HO := Lib.hid ho
    have HB := Lib.hid hb
    clear ho hb
    by_cases hlt : k < n
    · by_cases hltq : k < q
      · obtain ⟨p, hp⟩ := HS.out.get hlt
        obtain ⟨ad, rfl, h0, h1⟩ := HS.out.at_ hp
        replace h0 := cell_keep h0 HB.out
        replace h1 := cell_keep h1 HB.out
        have hw := HW.out p (List.mem_of_getElem? hp)
        have HX := Lib.hid hp
        clear hp
        go_wp2_with fail
        refine (rMade_any p.1 p.2 _ hw.1 hw.2).mono ?_
        rintro e W1 ⟨rfl, hb⟩
        have HO1 := Lib.hid (HO.out.keep hb)
        have HB1 := Lib.hid (below_step HB.out hb)
        clear hb h0 h1 hw
        go_wp2_with (at_builtin; refine wpList_appendE rfl (.tmp 19) (.tmp 25) rfl (w.heap.size) _ k _ rfl (HO1.out.keep ((Below.refl _ _).alloc (Nat.le_refl _) _)) W1.heap.size 1 (madeE p) rfl (Two.new W1 _ _ _) (by omega) (by have := HB1.out.size; simp; omega) ?_; intro v1 w1 hown1 hg1; have HO2 := Lib.hid hown1; have HB2 := Lib.hid (below_grown (w0 := w) (HB1.out.alloc HB1.out.size _) hg1 (HO1.out.keep ((Below.refl _ _).alloc (Nat.le_refl _) _)) (Nat.le_refl _)); clear hown1 hg1)
        go_roundw
        case rel => exact ⟨k + 1, by omega, by omega, by go_num, by rw [take_map_snoc HX.out]; exact HO2.out, HB2.out⟩
        case measure => simp [intOf]; omega
      · have hkq' : k = q := by omega
        subst hkq'
        obtain ⟨A1, c1, rfl, hs1⟩ := HO.out.sl
        have HSQ := Lib.hid hs1
        clear hs1
        go_wp2_with fail
        go_ret
        exact ⟨A1, k, c1, rfl, hkq, HSQ.out, HO.out, HB.out⟩
    · have hkn : k = n := by omega
      obtain ⟨A1, c1, rfl, hs1⟩ := HO.out.sl
      have HSQ := Lib.hid hs1
      clear hs1
      go_wp2_with fail
      go_ret
      have e : ps.take q = ps.take k := by rw [hkn, HL.out, List.take_length, List.take_of_length_le (by have := HL.out; omega)]
      exact ⟨A1, k, c1, rfl, hkq, by rw [e]; exact HSQ.out, by rw [e]; exact HO.out, HB.out⟩

/-- exactly q elements -/
def exactE (ps : List (Int × Int)) (q : Nat) : List E2 := (ps.take q).map madeE ++ List.replicate (q - ps.length) E2.zero
theorem exactE_length (ps : List (Int × Int)) (q : Nat) : (exactE ps q).length = q := by
  unfold exactE
  rw [List.length_append, List.length_map, List.length_take, List.length_replicate]
  omega

set_option maxHeartbeats 2000000 in
theorem rPExactly_any (A : Option Addr) (n c : Nat) (ps : List (Int × Int)) (q : Nat) (w : World) (h : Sr w A n c ps) (hw : Nums ps) (hq : q ≤ 65536) :
    Calls Tryd.prog 35 #[.slice A n c, .int .i64 q] w fun e w' => ∃ A' c', e = .returned (.slice A' q c') ∧ Sl w' A' q c' (exactE ps q) ∧ Below w.heap.size w w' := by
  have HL := Lib.hid h.len
  have HW := Lib.hid hw
  have HS := Lib.hid h
  clear h hw
  go_enter Tryd.func35, Tryd.ntmps35
  go_wp2_with fail
  refine (rPMade_any A n c ps q _ HS.out HW.out hq).mono ?_
  rintro e W1 ⟨A1, m1, c1, rfl, hm1, hs, ho, hb⟩
  have HO := Lib.hid ho
  have HB := Lib.hid hb
  have HM := Lib.hid (show m1 = min q ps.length by have := hs.len; simpa using this)
  clear hs ho hb
  go_wp2_with fail
  go_loopw [5] (fun v wr => ∃ (k : Nat) (A2 : Option Addr) (c2 : Nat), v = .slice A2 k c2 ∧ k ≤ q ∧ m1 ≤ k ∧ OwE wr w.heap.size (.slice A2 k c2) k ((ps.take q).map madeE ++ List.replicate (k - m1) E2.zero) ∧ Below w.heap.size w wr) (fun v _ => match v with | .slice _ k _ => q - k | _ => 0)
  case atStart => exact ⟨m1, A1, c1, rfl, hm1, Nat.le_refl _, by rw [Nat.sub_self]; simpa using HO.out, HB.out⟩
  case round =>
    clear HO HB
    obtain ⟨k, A2, c2, rfl, hk, hmk, ho, hb⟩ := hrel
    obtain ⟨A3, c3, e3, hs3⟩ := ho.sl
    injection e3 with eA eN eC
    subst eA
    subst eC
    have hkc := hs3.cap
    have hct := hs3.top
    have HO1 := Lib.hid ho
    have HB1 := Lib.hid hb
    have HS3 := Lib.hid hs3
    clear ho hb hs3 eN
    by_cases hlt : k < q
    · go_wp2_with (at_builtin; refine wpList_appendE rfl (.tmp 13) (.tmp 15) rfl (w.heap.size) _ k _ rfl (HO1.out.keep ((Below.refl _ _).alloc (Nat.le_refl _) _)) wr.heap.size 1 (E2.zero) rfl (Two.new wr _ _ _) (by omega) (by have := HB1.out.size; simp; omega) ?_; intro v1 w1 hown1 hg1; have HO2 := Lib.hid hown1; have HB2 := Lib.hid (below_grown (w0 := w) (HB1.out.alloc HB1.out.size _) hg1 (HO1.out.keep ((Below.refl _ _).alloc (Nat.le_refl _) _)) (Nat.le_refl _)); clear hown1 hg1)
      obtain ⟨A4, c4, rfl, hs4⟩ := HO2.out.sl
      clear hs4
      go_roundw
      case rel => exact ⟨k + 1, A4, c4, rfl, by omega, by omega, by rw [show k + 1 - m1 = (k - m1) + 1 by omega, List.replicate_succ', ← List.append_assoc]; exact HO2.out, HB2.out⟩
      case measure => show q - (k + 1) < q - k; omega
    · have hkq : k = q := by omega
      subst hkq
      go_wp2_with fail
      go_ret
      exact ⟨A2, c2, rfl, by unfold exactE; have := HS3.out; have hm := HM.out; rw [show k - ps.length = k - m1 by omega]; exact this, HB1.out⟩


end Go.Proofs.YtopicjdmajlndaaDoor.J

namespace Gold
set_option linter.unusedVariables false
set_option linter.unusedSimpArgs false
set_option linter.unusedSectionVars false
set_option maxRecDepth 8000
open E2
theorem mleF_append : ∀ (p q : List E2) (f : Nat → E2), mleF f (p ++ q) = mleF (fun k => mleF (fun i => f (k + 2 ^ p.length * i)) q) p
  | [], q, f => by simp [mleF]
  | r :: p, q, f => by
    show mleF (bndF f r) (p ++ q) = mleF (bndF _ r) p
    rw [mleF_append p q (bndF f r)]
    refine congrArg (fun g => mleF g p) (funext fun k => ?_)
    simp only [bndF]
    rw [← mleF_btw]
    refine congrArg (fun g => mleF g q) (funext fun i => ?_)
    have e : 2 * (k + 2 ^ p.length * i) = 2 * k + 2 ^ (r :: p).length * i := by
      rw [List.length_cons, Nat.pow_succ, Nat.mul_add, ← Nat.mul_assoc, Nat.mul_comm 2 (2 ^ p.length)]
    rw [e, show 2 * k + 2 ^ (r :: p).length * i + 1 = 2 * k + 1 + 2 ^ (r :: p).length * i by omega]
/-- a number as an element -/
def cN (x : Nat) : E2 := E2.ofF (toF (x : Int))
/-- numbers as elements -/
def liN (xs : List Nat) : List E2 := (xs.map fun x => toF ((x : Nat) : Int)).map E2.ofF
theorem cfE_liN (xs : List Nat) (i : Nat) : cfE (liN xs) i = cN (xs.getD i 0) := by
  unfold cfE liN
  rw [List.getElem?_map, List.getElem?_map, List.getD_eq_getElem?_getD]
  cases xs[i]? <;> simp [cN]
  rfl
/-- the share of a column -/
def shE (cols : List (List Nat)) (ps : List E2) (k : Nat) : E2 := eqW k (ps.take 3) * mleE (liN (cols.getD k [])) (ps.drop 3)
theorem table_ext {cols : List (List Nat)} {TL : List Nat} {ps : List E2} (hc : cols.length = 5) (hp : ps.length = 6) (ht : ∀ k i, k < 8 → i < 8 → TL.getD (k + 8 * i) 0 = (cols.getD k []).getD i 0) : mleE (liN TL) ps = sumE 5 (shE cols ps) := by
  have h1 : (ps.take 3).length = 3 := by rw [List.length_take]; omega
  have h2 : (ps.drop 3).length = 3 := by rw [List.length_drop]; omega
  have hs : mleE (liN TL) ps = mleF (cfE (liN TL)) (ps.take 3 ++ ps.drop 3) := by rw [List.take_append_drop]; rfl
  unfold shE
  rw [hs]
  generalize ps.take 3 = p at h1 ⊢
  generalize ps.drop 3 = q at h2 ⊢
  rw [mleF_append, mleF_sum, h1]
  have hk : ∀ k, k < 8 → mleF (fun i => cfE (liN TL) (k + 2 ^ 3 * i)) q * eqW k p = eqW k p * mleE (liN (cols.getD k [])) q := fun k hk => by
    rw [E2.mul_comm]
    refine congrArg (eqW k p * ·) (mleF_congr fun i hi => ?_)
    rw [h2] at hi
    rw [cfE_liN, cfE_liN, show (2 : Nat) ^ 3 = 8 from rfl, ht k i hk hi]
  have hz : ∀ k, 5 ≤ k → eqW k p * mleE (liN (cols.getD k [])) q = zero := fun k hk => by
    have e : cols.getD k [] = [] := by rw [List.getD_eq_getElem?_getD, List.getElem?_eq_none (by omega)]; rfl
    have e2 : mleE (liN []) q = zero := by
      unfold mleE
      rw [show cfE (liN []) = fun _ => zero from funext fun i => by rw [cfE_liN]; rfl]
      exact mleF_zero q
    rw [e, e2, E2.mul_zero]
  rw [show (2 : Nat) ^ 3 = 5 + 1 + 1 + 1 from rfl, sumE_congr (fun k h => hk k (by omega)), sumE, sumE, sumE, hz 5 (by omega), hz (5 + 1) (by omega), hz (5 + 1 + 1) (by omega), E2.add_zero, E2.add_zero, E2.add_zero]
end Gold
namespace Go.Proofs.YtopicjdmajlndaaDoor.K
set_option linter.unusedVariables false
set_option linter.unusedSimpArgs false
set_option linter.unusedSectionVars false
open Go.RowKit
section
variable {P : Program} {ops : Array Oper} {S : World → Prop} {Q : Exit → Act → World → Prop} {m : Nat}
/-- as okT, the operation m being the last -/
def okM (ops : Array Oper) (m : Nat) : OT → Array Bool → Bool
  | .nil, l => Region.ready .any ops l == [m]
  | .q i t, l => decide (i < m) && (ops[i]?.all stillOp) && Region.free .any ops l i && (Region.ready .any ops l).contains i && okM ops m t (l.setIfInBounds i true)
  | .one i t, l => decide (i < m) && (ops[i]?.all fun o => !stillOp o) && (Region.ready .any ops l == [i]) && okM ops m t (l.setIfInBounds i true)
  | .fork i t j u, l => decide (i < m) && decide (j < m) && (ops[i]?.all fun o => !stillOp o) && (ops[j]?.all fun o => !stillOp o) && (Region.ready .any ops l == [i, j]) && (t.len == u.len) && okM ops m t (l.setIfInBounds i true) && okM ops m u (l.setIfInBounds j true)
theorem wpT_of_OT (hz : ops.size = m + 1) (hs : Region.sinkB .any ops m = true) (hcb : Region.chainB .any ops m = true) (hsel : Region.noSelect ops = true) : ∀ (t : OT) (l : Array Bool) (a : Act) (w : World), HeadInv .any ops m l → S w → okM ops m t l = true →
    wpOT P ops S (fun _ a w => mOp P ops m (fun a w => Q .normal a w) a w) t a w → wpT P ops S m Q (t.len + 1) l a w
  | .nil, l, a, w, inv, hS, ho, h => by
    unfold okM at ho
    have hr : Region.ready .any ops l = [m] := by simpa using ho
    refine ⟨fun e => (by rw [hr] at e; cases e), fun i hi => ?_⟩
    have hi' := hi
    rw [hr] at hi
    obtain rfl : i = m := by simpa using hi
    rw [tOp_eq]
    obtain ⟨om, hom, hw, hh⟩ := h
    exact ⟨om, hom, hw, hOp_mono (fun v w' hq => ⟨none_left hz hs hcb inv hi', hq⟩) hh⟩
  | .q i t, l, a, w, inv, hS, ho, h => by
    unfold okM at ho
    simp only [Bool.and_eq_true, decide_eq_true_eq] at ho
    obtain ⟨⟨⟨⟨him, hst⟩, hf⟩, hrd⟩, ho⟩ := ho
    obtain ⟨o, hi, v, hy, hk⟩ := h
    have hr : i ∈ Region.ready .any ops l := by simpa using hrd
    rw [hi] at hst
    have hst : stillOp o = true := by simpa using hst
    refine wpT_first hz hs hcb him hi (Region.noSelect_spec hsel) (t.len + 1) l a w inv hS (Region.free_spec hi hf) (fun e => by rw [hst] at e; cases e) hr ?_
    unfold sOp
    rw [hi]
    exact .inl ⟨.inl hst, v, hy, wpT_of_OT hz hs hcb hsel t _ _ w (inv.set hr him) hS ho hk⟩
  | .one i t, l, a, w, inv, hS, ho, h => by
    unfold okM at ho
    simp only [Bool.and_eq_true, decide_eq_true_eq] at ho
    obtain ⟨⟨⟨him, hst⟩, hrd⟩, ho⟩ := ho
    obtain ⟨o, hi, hw, hk⟩ := h
    have hr : Region.ready .any ops l = [i] := by simpa using hrd
    rw [hi] at hst
    have hst : stillOp o = false := by simpa using hst
    refine ⟨fun e => (by rw [hr] at e; cases e), fun j hj => ?_⟩
    have hj' := hj
    rw [hr] at hj
    obtain rfl : j = i := by simpa using hj
    rw [tOp_ne (by omega)]
    unfold sOp
    rw [hi]
    exact .inr ⟨not_quiet hst hw, hOp_mono (fun v w' hq => ⟨hq.1, wpT_of_OT hz hs hcb hsel t _ _ w' (inv.set hj' him) hq.1 ho hq.2⟩) hk⟩
  | .fork i t j u, l, a, w, inv, hS, ho, h => by
    unfold okM at ho
    simp only [Bool.and_eq_true, decide_eq_true_eq] at ho
    obtain ⟨⟨⟨⟨⟨⟨⟨him, hjm⟩, hsi⟩, hsj⟩, hrd⟩, hlen⟩, h1⟩, h2⟩ := ho
    obtain ⟨⟨o, hi, hw, hk⟩, ⟨o2, hi2, hw2, hk2⟩⟩ := h
    have hr : Region.ready .any ops l = [i, j] := by simpa using hrd
    have hlen : t.len = u.len := by simpa using hlen
    rw [hi] at hsi
    rw [hi2] at hsj
    have hsi : stillOp o = false := by simpa using hsi
    have hsj : stillOp o2 = false := by simpa using hsj
    refine ⟨fun e => (by rw [hr] at e; cases e), fun q hq => ?_⟩
    have hq' := hq
    rw [hr] at hq
    rcases List.mem_cons.1 hq with rfl | hq
    · rw [tOp_ne (by omega)]
      unfold sOp
      rw [hi]
      exact .inr ⟨not_quiet hsi hw, hOp_mono (fun v w' hq => ⟨hq.1, wpT_of_OT hz hs hcb hsel t _ _ w' (inv.set hq' him) hq.1 h1 hq.2⟩) hk⟩
    · obtain rfl : q = j := by simpa using hq
      rw [tOp_ne (by omega)]
      unfold sOp
      rw [hi2]
      exact .inr ⟨not_quiet hsj hw2, hOp_mono (fun v w' hq => ⟨hq.1, by have := wpT_of_OT hz hs hcb hsel u _ _ w' (inv.set hq' hjm) hq.1 h2 hq.2; rw [← hlen] at this; exact this⟩) hk2⟩
theorem wp_ordM (m : Nat) (t : OT) {id : Nat} {a : Act} {w : World} {l : List Oper} (hm : P.follows .mixedOrders = true) (hsel : Region.noSelect l.toArray = true) (hz : l.length = m + 1) (hl : t.len = m) (hs : Region.sinkB .any l.toArray m = true) (hcb : Region.chainB .any l.toArray m = true) (ho : okM l.toArray m t (Array.replicate l.length false) = true)
    (h : ∀ V, Below w.heap.size w V → wpOT P l.toArray (fun X => Below V.heap.size V X) (fun _ a w => mOp P l.toArray m (fun a w => Q .normal a w) a w) t a V) : (Code.region id l.toArray true).wp P Q a w := by
  have inv0 : HeadInv .any l.toArray m (Array.replicate l.toArray.size false) :=
    ⟨by simp, fun j oj _ hl => (by rw [getD_replicate_false] at hl; cases hl), fun t _ ht => getD_in (by simpa using ht) (getD_replicate_false _ _)⟩
  refine wp_region_any hm (wpAny_of_wpT (S := fun X => Below w.drew.heap.size w.drew X) (m := m) (by simpa using hz) hs hcb _ _ _ _ inv0 (Below.refl _ _) ?_)
  have := wpT_of_OT (P := P) (Q := Q) (m := m) (ops := l.toArray) (by simpa using hz) hs hcb hsel t (Array.replicate l.length false) a w.drew (by simpa using inv0) (Below.refl _ _) ho (h _ (Below.refl _ _).drew)
  rw [hl] at this
  simpa [hz] using this
end
end Go.Proofs.YtopicjdmajlndaaDoor.K
namespace Go.Proofs.YtopicjdmajlndaaDoor
set_option linter.unusedVariables false
set_option linter.unusedSimpArgs false
set_option linter.unusedSectionVars false
open Go.RowKit Go.Proofs.YtopicjdmajlndaaDoor.K
/-- a pair of words in cells -/
def exP (p : Int × Int) : List Value := [.int .u64 p.1, .int .u64 p.2]
instance : Enc exP 2 := ⟨fun _ => rfl, fun x u hu => by
  simp only [exP, List.mem_cons, List.not_mem_nil, or_false] at hu
  rcases hu with rfl | rfl <;> rfl, by decide⟩
theorem srOf {w : World} {A : Option Addr} {n c : Nat} {ps : List (Int × Int)} (h : Sg exP 2 w A n c ps) : J.Sr w A n c ps :=
  ⟨by rw [List.length_map]; exact h.len.symm, h.cap, h.top, h.nil, fun i p hp => by
    rw [List.getElem?_map] at hp
    obtain ⟨q, hq, rfl⟩ := Option.map_eq_some_iff.1 hp
    obtain ⟨g, off, rfl, hr⟩ := h.at_ i q hq
    refine ⟨⟨g, off, none⟩, rfl, ?_, ?_⟩
    · rw [Addr.add_mid]; exact hr 0 _ rfl
    · rw [Addr.add_mid]; exact hr 1 _ rfl⟩
theorem sfOf {w : World} {A : Option Addr} {n c : Nat} {xs : List Nat} (h : Sg wdC 1 w A n c xs) (hx : ∀ x ∈ xs, x < 18446744069414584321) : J.Sf w A n c (xs.map fun x => Gold.toF ((x : Nat) : Int)) :=
  ⟨by rw [List.length_map, List.length_map]; exact h.len.symm, h.cap, h.top, h.nil, fun i z hz => by
    rw [List.getElem?_map, List.getElem?_map] at hz
    obtain ⟨y, hy, rfl⟩ := Option.map_eq_some_iff.1 hz
    obtain ⟨x, hx0, rfl⟩ := Option.map_eq_some_iff.1 hy
    obtain ⟨g, off, rfl, hr⟩ := h.at_ i x hx0
    have hl := hx x (List.mem_of_getElem? hx0)
    refine ⟨⟨g, off, none⟩, rfl, ?_⟩
    rw [Addr.add_mid, Gold.vF_toF_El ⟨by omega, by omega⟩]
    have := hr 0 _ rfl
    rw [Nat.mul_one] at this
    exact this⟩
theorem xExactly (A : Option Addr) (n c : Nat) (xs : List (Int × Int)) (ps : List Gold.E2) (hp : J.exactE xs 6 = ps) (w : World) (h : Sg exP 2 w A n c xs) (hw : J.Nums xs) :
    Calls Tryd.prog 35 #[.slice A n c, .int .i64 6] w fun e w' => ∃ A' c', e = .returned (.slice A' 6 c') ∧ J.Sl w' A' 6 c' ps ∧ Below w.heap.size w w' := by
  subst hp
  exact J.rPExactly_any A n c xs 6 w (srOf h) hw (by omega)
theorem xLift (A : Option Addr) (n c : Nat) (xs : List Nat) (w : World) (h : Sg wdC 1 w A n c xs) (hx : ∀ x ∈ xs, x < 18446744069414584321) (hn : n ≤ 65536) :
    Calls Tryd.prog 40 #[.slice A n c] w fun e w' => ∃ A' c', e = .returned (.slice A' n c') ∧ J.Sl w' A' n c' (Gold.liN xs) ∧ Below w.heap.size w w' :=
  J.rLift_any A n c _ w (sfOf h hx) hn
theorem xEqIndex (k : Nat) (A : Option Addr) (n c : Nat) (ps : List Gold.E2) (q : Gold.E2) (hq : Gold.eqW k ps = q) (w : World) (h : J.Sl w A n c ps) (hk : k ≤ 5) (hn : n ≤ 16) :
    Calls Tryd.prog 38 #[.int .i64 (k : Int), .slice A n c] w fun e w' => e = .returned (.agg #[.int .u64 (Gold.vF q.A), .int .u64 (Gold.vF q.B)]) ∧ Below w.heap.size w w' := by
  subst hq
  exact J.rEqIndex_any k A n c ps w h (by omega) hn
theorem xEval (A : Option Addr) (n c : Nat) (xs : List Gold.E2) (B : Option Addr) (m d : Nat) (ps : List Gold.E2) (q : Gold.E2) (hq : Gold.mleE xs ps = q) (w : World) (h : J.Sl w A n c xs) (h' : J.Sl w B m d ps) (hn : n = 2 ^ m) (hm : m ≤ 16) :
    Calls Tryd.prog 39 #[.slice A n c, .slice B m d] w fun e w' => e = .returned (.agg #[.int .u64 (Gold.vF q.A), .int .u64 (Gold.vF q.B)]) ∧ Below w.heap.size w w' := by
  subst hq
  exact J.rEval_any A n c xs B m d ps w h h' hn hm
theorem xMul (x y q : Gold.E2) (hq : x * y = q) (w : World) : Calls Tryd.prog 37 #[.agg #[.int .u64 (Gold.vF x.A), .int .u64 (Gold.vF x.B)], .agg #[.int .u64 (Gold.vF y.A), .int .u64 (Gold.vF y.B)]] w fun e w' => e = .returned (.agg #[.int .u64 (Gold.vF q.A), .int .u64 (Gold.vF q.B)]) ∧ Below w.heap.size w w' := by
  subst hq
  exact J.rMul_any x y w
theorem xAdd (x y q : Gold.E2) (hq : x + y = q) (w : World) : Calls Tryd.prog 36 #[.agg #[.int .u64 (Gold.vF x.A), .int .u64 (Gold.vF x.B)], .agg #[.int .u64 (Gold.vF y.A), .int .u64 (Gold.vF y.B)]] w fun e w' => e = .returned (.agg #[.int .u64 (Gold.vF q.A), .int .u64 (Gold.vF q.B)]) ∧ Below w.heap.size w w' := by
  subst hq
  exact J.rAdd_any x y w
theorem exec_eqXt {ev : Operand → Value} {o : Oper} {w : World} {x y : Operand} {t : TypeId} (a b : Int) (ho : o.op = .binOp .eql 63 x y t) (hx : ev x = .agg #[.int .u64 a, .int .u64 b]) (hy : ev y = .agg #[.int .u64 a, .int .u64 b]) : (execOp ev o).run Tryd.prog w = .ok (.value (.bool true)) w := by
  unfold execOp
  rw [ho]
  simp only [hx, hy]
  go_simp
theorem jB_cols {cols : List (List Nat)} (hc : cols.length = 5) (h : ∀ xs ∈ cols, xs.length = 8 ∧ ∀ x ∈ xs, x < 256) : jB cols = true ∧ L0 cols = 8 := by
  have h0 : L0 cols = 8 := by
    unfold L0
    match cols, hc with
    | x :: _, _ => exact (h x List.mem_cons_self).1
  refine ⟨?_, h0⟩
  rw [jB_eq, h0, hc]
  simp only [Bool.and_eq_true, List.all_eq_true]
  refine ⟨by decide, fun xs hxs => ?_⟩
  rw [elB_eq, Bool.and_eq_true, List.all_eq_true]
  exact ⟨fun x hx => decide_eq_true (by have := (h xs hxs).2 x hx; omega), by rw [(h xs hxs).1]; rfl⟩
theorem tabN_get {cols : List (List Nat)} {k i : Nat} (hk : k < 8) (hi : i < 8) : (tabN cols 8 8).getD (k + 8 * i) 0 = (cols.getD k []).getD i 0 := by
  unfold tabN
  rw [List.getD_eq_getElem?_getD, List.getElem?_map, List.getElem?_range (by omega)]
  simp only [Option.map_some, Option.getD_some]
  rw [show (k + 8 * i) % 8 = k by omega, show (k + 8 * i) / 8 = i by omega]
theorem tabN_small {cols : List (List Nat)} (h : ∀ xs ∈ cols, xs.length = 8 ∧ ∀ x ∈ xs, x < 256) : ∀ x ∈ tabN cols 8 8, x < 18446744069414584321 := fun x hx => by
  obtain ⟨q, _, rfl⟩ := List.mem_map.1 hx
  have key : ∀ ys : List Nat, (∀ y ∈ ys, y < 256) → ys.getD (q / 8) 0 < 18446744069414584321 := fun ys hy => by
    rw [List.getD_eq_getElem?_getD]
    cases e : ys[q / 8]? with
    | none => simp
    | some y =>
      have := hy y (List.mem_of_getElem? e)
      simp only [Option.getD_some]
      omega
  refine key _ ?_
  rw [List.getD_eq_getElem?_getD]
  cases e : cols[q % 8]? with
  | none => simp
  | some y => exact (h y (List.mem_of_getElem? e)).2
end Go.Proofs.YtopicjdmajlndaaDoor

namespace Go.Proofs.YtopicjdmajlndaaDoor.K
set_option linter.unusedVariables false
set_option linter.unusedSimpArgs false
set_option linter.unusedSectionVars false
set_option maxRecDepth 8000
open Go.ChangeShapes Go.WideShapes Go.ChangeAt Go.RowKit Go.Joins Go.Deep
theorem list_ofK {α : Type} (n : Nat) (P : Nat → α → Prop) (h : ∀ i, i < n → ∃ x, P i x) : ∃ l : List α, l.length = n ∧ ∀ i x, l[i]? = some x → P i x := by
  induction n with
  | zero => exact ⟨[], rfl, fun i x hx => by simp at hx⟩
  | succ n ih =>
    obtain ⟨l, hl, hp⟩ := ih fun i hi => h i (by omega)
    obtain ⟨x, hx⟩ := h n (Nat.lt_succ_self n)
    refine ⟨l ++ [x], by simp [hl], fun i y hy => ?_⟩
    by_cases hi : i < l.length
    · rw [List.getElem?_append_left hi] at hy
      exact hp i y hy
    · rw [List.getElem?_append_right (by omega)] at hy
      have e : i = n := by
        have := (List.getElem?_eq_some_iff.1 hy).1
        simp at this
        omega
      subst e
      rw [hl, Nat.sub_self] at hy
      simp at hy
      subst hy
      exact hx
section
variable {α : Type} {E : α → List Value} {k : Nat} [hE : Enc E k] {P : Program} {H : Type} {enc : TypeId × Value → H} {W : World} {b1 : Nat} {sp : Nat → Bool} {hd : Bool} {t e : TypeId}
/-- a slice that comes in, its elements opened -/
theorem open_seq (p : α → Prop) (hu : P.underlying t = some (.slice e)) (hc : P.cellsOf e = k) (hel : ∀ m cs y, cs.length = k → DataW.trod enc P W b1 sp hd m e cs = some y → ∃ x, cs = E x ∧ p x) {m : Nat} {cs : List Value} {y : DataW H × List MemPlace} (h : DataW.trod enc P W b1 sp hd m t cs = some y) :
    ∃ A n c xs, cs = [.slice A n c] ∧ Sg E k W A n c xs ∧ ∀ x ∈ xs, p x := by
  have hk := hE.pos
  rcases open_slice hu h with ⟨hcs, _⟩ | ⟨a, len, cap, m', n', D, Pl, hcs, _, hl, hm, hmm, _, hi⟩
  · exact ⟨none, 0, 0, [], hcs, Sg.nil_ _, fun x hx => by cases hx⟩
  · unfold maxLen at hm
    have hC : ∀ i, i < len → ∃ x, p x ∧ ∀ j v, (E x)[j]? = some v → W.cell? ((a.add (i * k)).add j) = some v := fun i hin => by
      obtain ⟨cs', hc2, ht⟩ := hi i (by rw [hmm]; split <;> omega)
      rw [hc] at hc2
      obtain ⟨_, hcl, hat⟩ := World.cells?_some hc2
      obtain ⟨x, hx, hpx⟩ := hel _ _ _ hcl ht
      subst hx
      exact ⟨x, hpx, fun j v hv => (hat j (by rw [← hE.len x]; exact (List.getElem?_eq_some_iff.1 hv).1)).trans hv⟩
    obtain ⟨xs, hxl, hxx⟩ := list_ofK len _ hC
    refine ⟨some a, len, cap, xs, hcs, ⟨hxl, hl, by omega, fun e => (by cases e), fun i x hx => ?_⟩, fun x hx => ?_⟩
    · have hil := (List.getElem?_eq_some_iff.1 hx).1
      obtain ⟨b, off, s⟩ := a
      obtain ⟨x0, hx0⟩ : ∃ x0, xs[0]? = some x0 := ⟨_, List.getElem?_eq_getElem (by omega)⟩
      obtain ⟨v0, hv0⟩ : ∃ v0, (E x0)[0]? = some v0 := ⟨_, List.getElem?_eq_getElem (by rw [hE.len]; exact hk)⟩
      have h0 := (hxx 0 x0 hx0).2 0 v0 hv0
      rw [Nat.zero_mul] at h0
      have hs : s = none := by
        cases s with
        | none => rfl
        | some q =>
          simp only [Addr.add, if_true, World.cell?] at h0
          split at h0 <;> simp at h0
      subst hs
      refine ⟨b, off, rfl, fun j v hv => ?_⟩
      have h1 := (hxx i x hx).2 j v hv
      rw [Addr.add_mid, Addr.add_mid] at h1
      exact h1
    · obtain ⟨i, hi'⟩ := List.getElem?_of_mem hx
      exact (hxx i x hi').1
end
end Go.Proofs.YtopicjdmajlndaaDoor.K
namespace Go.Proofs.YtopicjdmajlndaaDoor
set_option linter.unusedVariables false
set_option linter.unusedSimpArgs false
set_option linter.unusedSectionVars false
open Go.ChangeShapes Go.WideShapes Go.ChangeAt Go.RowKit Go.Joins Go.Deep Go.Proofs.YtopicjdmajlndaaDoor.K
theorem own : ownKnob Tryd.prog.godebug = none := by kernel_rfl
theorem laidOut : laidOutB Tryd.prog = true := by kernel_rfl
section
variable {H : Type} {enc : TypeId × Value → H} {W : World} {base : Nat} {sp : Nat → Bool} {b1 : Nat} {hd : Bool} {v : Value} {d : DataW H} {p : List MemPlace}
theorem cells12B : Tryd.prog.cellsOf 5 = 1 := by kernel_rfl
theorem trod12_u8 {m : Nat} {cs : List Value} {y : DataW H × List MemPlace} (h : DataW.trod enc Tryd.prog W b1 sp hd m 5 cs = some y) : ∃ x : Nat, cs = byC x ∧ x < 256 := by
  obtain ⟨a, e, _, w⟩ := DataW.trod_int Tryd.underlying5 h
  have hb := bounds_u8 w
  exact ⟨a.toNat, by rw [e]; simp only [byC]; rw [Int.toNat_of_nonneg hb.1], by omega⟩
theorem trod12_three {m : Nat} {cs : List Value} {y : DataW H × List MemPlace} (hl : cs.length = 3) (h : DataW.trod enc Tryd.prog W b1 sp hd m 44 cs = some y) : ∃ x y z : Nat, cs = [.int .u8 (x : Int), .int .u8 (y : Int), .int .u8 (z : Int)] ∧ x < 256 ∧ y < 256 ∧ z < 256 := by
  obtain ⟨xs, m', _, _, _, hn, hel⟩ := DataW.trod_array Tryd.underlying44 h
  rw [cells12B] at hel
  match cs, hl, xs, hn with
  | [c0, c1, c2], _, [y0, y1, y2], _ =>
    have g0 : DataW.trod enc Tryd.prog W b1 sp hd m' 5 [c0] = some y0 := by simpa using hel 0 (by omega)
    have g1 : DataW.trod enc Tryd.prog W b1 sp hd m' 5 [c1] = some y1 := by simpa using hel 1 (by omega)
    have g2 : DataW.trod enc Tryd.prog W b1 sp hd m' 5 [c2] = some y2 := by simpa using hel 2 (by omega)
    obtain ⟨x0, e0, h0⟩ := trod12_u8 g0
    obtain ⟨x1, e1, h1⟩ := trod12_u8 g1
    obtain ⟨x2, e2, h2⟩ := trod12_u8 g2
    simp only [byC, List.cons.injEq, and_true] at e0 e1 e2
    subst e0 e1 e2
    exact ⟨x0, x1, x2, rfl, h0, h1, h2⟩
theorem cells12T : Tryd.prog.cellsOf 44 = 3 := by kernel_rfl
theorem cells12O : Tryd.prog.cellsOf 72 = 4 := by kernel_rfl
theorem cells12F : Tryd.prog.cellsOf 4 = 1 := by kernel_rfl
theorem trod12_op {m : Nat} {cs : List Value} {y : DataW H × List MemPlace} (hl : cs.length = 4) (h : DataW.trod enc Tryd.prog W b1 sp hd m 72 cs = some y) : ∃ o : Opn, cs = opC o ∧ (o.b0 < 256 ∧ o.b1 < 256 ∧ o.b2 < 256) := by
  obtain ⟨ys, m2, _, _, _, hn, hel⟩ := DataW.trod_struct Tryd.underlying72 h
  match cs, hl, ys, hn with
  | [c0, c1, c2, c3], _, [y0, y1], _ =>
    have g0 : DataW.trod enc Tryd.prog W b1 sp hd m2 44 [c0, c1, c2] = some y0 := by simpa [cells12T] using hel 0 _ rfl
    have g1 : DataW.trod enc Tryd.prog W b1 sp hd m2 4 [c3] = some y1 := by simpa [cells12F] using hel 1 _ rfl
    obtain ⟨x, y, z, e0, h0⟩ := trod12_three rfl g0
    obtain ⟨b, e1, _⟩ := DataW.trod_bool Tryd.underlying4 g1
    simp only [List.cons.injEq, and_true] at e0 e1
    obtain ⟨rfl, rfl, rfl⟩ := e0
    subst e1
    exact ⟨Opn.mk x y z b, rfl, h0⟩
theorem open12_ops (hv : Value.okWide Tryd.prog W .any base 22 v) (h : DataW.Trod enc Tryd.prog W b1 sp hd 22 v d p) : ∃ (A : Option Addr) (n c : Nat) (ops : List Opn), v = .slice A n c ∧ Sg opC 4 W A n c ops ∧ ∀ o ∈ ops, o.b0 < 256 ∧ o.b1 < 256 ∧ o.b2 < 256 := by
  obtain ⟨A, n, c, rfl⟩ : ∃ A n c, v = .slice A n c := okWide_slice Tryd.underlying22 hv
  obtain ⟨fuel, hf⟩ := h
  obtain ⟨A2, n2, c2, xs, e, hs, hp⟩ := open_seq (E := opC) (fun o => o.b0 < 256 ∧ o.b1 < 256 ∧ o.b2 < 256) Tryd.underlying22 cells12O (fun m cs y hl hy => trod12_op hl hy) (show DataW.trod enc Tryd.prog W b1 sp hd fuel 22 [.slice A n c] = some (d, p) by simpa [Value.cells] using hf)
  simp only [List.cons.injEq, Value.slice.injEq, and_true] at e
  obtain ⟨rfl, rfl, rfl⟩ := e
  exact ⟨A, n, c, xs, rfl, hs, hp⟩
end
def laid12 : List (String × DataW Unit) := [("attestor/reading.widths", Rows.laid_attestor_reading_widths)]
theorem of_laid12 {W : World} (h : laidMetH Tryd.prog laid12 W) : Gw W := by
  rw [MakeChecks.laidMetH_plain _ _ _ (by kernel_rfl)] at h
  have h1 : laidMet Tryd.prog (("attestor/reading.widths", Lib.tabData .i64 [4, 8, 4, 8]) :: []) W := h
  have g1 : Tryd.prog.globalNamed "attestor/reading.widths" = some 0 := by kernel_rfl
  have t1 := Lib.tabIs_of_head g1 (t := 78) (by kernel_rfl) Tryd.underlying78 Tryd.underlying3 (by kernel_rfl) (by kernel_rfl) h1
  intro j v hv
  rw [Nat.zero_add]
  have hj := (List.getElem?_eq_some_iff.1 hv).1
  have h2 := t1.cell g1 j (by simpa using hj)
  rw [h2]
  have h4 : j = 0 ∨ j = 1 ∨ j = 2 ∨ j = 3 := by simp at hj; omega
  rcases h4 with rfl | rfl | rfl | rfl <;> exact hv
theorem door_met12 (os : Os) (args : Array Value) : laidMetH Tryd.prog laid12 ((World.doorLaid Tryd.prog 400 os).forCall (fun _ _ => 0) ⟨#[], args, []⟩).memory :=
  laidMetH_of_parts3 (fuel := 8) (laidMet_of_run' 8 (by kernel_rfl) (by kernel_rfl)) (by kernel_rfl) (by kernel_rfl)
end Go.Proofs.YtopicjdmajlndaaDoor

namespace Go.Proofs.YtopicjdmajlndaaDoor
set_option linter.unusedVariables false
set_option linter.unusedSimpArgs false
set_option linter.unusedSectionVars false
set_option maxRecDepth 8000
open Go.ChangeShapes Go.WideShapes Go.ChangeAt Go.RowKit Go.Joins Go.Deep Go.Proofs.YtopicjdmajlndaaDoor.K
section
variable {H : Type} {enc : TypeId × Value → H} {W : World} {base : Nat} {sp : Nat → Bool} {b1 : Nat} {hd : Bool} {v : Value} {d : DataW H} {p : List MemPlace}
theorem cells12X : Tryd.prog.cellsOf 63 = 2 := by kernel_rfl
theorem cells12V : Tryd.prog.cellsOf 50 = 1 := by kernel_rfl
theorem trod12_ext {m : Nat} {cs : List Value} {y : DataW H × List MemPlace} (hl : cs.length = 2) (h : DataW.trod enc Tryd.prog W b1 sp hd m 63 cs = some y) : ∃ o : Int × Int, cs = exP o ∧ (Gold.U64 o.1 ∧ Gold.U64 o.2) := by
  obtain ⟨ys, m2, _, _, _, hn, hel⟩ := DataW.trod_struct Tryd.underlying63 h
  match cs, hl, ys, hn with
  | [c0, c1], _, [y0, y1], _ =>
    have g0 : DataW.trod enc Tryd.prog W b1 sp hd m2 50 [c0] = some y0 := by simpa [cells12V] using hel 0 _ rfl
    have g1 : DataW.trod enc Tryd.prog W b1 sp hd m2 50 [c1] = some y1 := by simpa [cells12V] using hel 1 _ rfl
    obtain ⟨a, e0, _, w0⟩ := DataW.trod_int Tryd.underlying50 g0
    obtain ⟨b, e1, _, w1⟩ := DataW.trod_int Tryd.underlying50 g1
    simp only [List.cons.injEq, and_true] at e0 e1
    subst e0 e1
    have h0 := bounds_u64 w0
    have h1 := bounds_u64 w1
    exact ⟨(a, b), rfl, ⟨h0.1, by omega⟩, ⟨h1.1, by omega⟩⟩
theorem open12_exts (hv : Value.okWide Tryd.prog W .any base 60 v) (h : DataW.Trod enc Tryd.prog W b1 sp hd 60 v d p) : ∃ (A : Option Addr) (n c : Nat) (xs : List (Int × Int)), v = .slice A n c ∧ Sg exP 2 W A n c xs ∧ J.Nums xs := by
  obtain ⟨A, n, c, rfl⟩ : ∃ A n c, v = .slice A n c := okWide_slice Tryd.underlying60 hv
  obtain ⟨fuel, hf⟩ := h
  obtain ⟨A2, n2, c2, xs, e, hs, hp⟩ := open_seq (E := exP) (fun o => Gold.U64 o.1 ∧ Gold.U64 o.2) Tryd.underlying60 cells12X (fun m cs y hl hy => trod12_ext hl hy) (show DataW.trod enc Tryd.prog W b1 sp hd fuel 60 [.slice A n c] = some (d, p) by simpa [Value.cells] using hf)
  simp only [List.cons.injEq, Value.slice.injEq, and_true] at e
  obtain ⟨rfl, rfl, rfl⟩ := e
  exact ⟨A, n, c, xs, rfl, hs, hp⟩
end
end Go.Proofs.YtopicjdmajlndaaDoor

