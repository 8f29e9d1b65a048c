/- Several texts in one: Yav, Yaw, Yax. -/
import Derived.Test.YtlicfidcfhbmpaaDoorE15
import Derived.Test.YtlicfidcfhbmpaaDoorE04
import Derived.Test.YtlicfidcfhbmpaaDoorE09
set_option linter.unusedVariables false
set_option linter.unusedSimpArgs false
set_option linter.unusedSectionVars false
namespace Go.Proofs.YtlicfidcfhbmpaaDoor
set_option maxRecDepth 8000
open Go.RowKit Go.Proofs.YtlicfidcfhbmpaaDoor.K
structure _root_.Qu.RT where
 kind : Nat
 tx : List UInt8
 off : Nat
def tkR (t : Qu.RT) : List Value := [.int .i64 (t.kind : Int), .string (sB t.tx), .int .i64 (t.off : Int)]
instance : Enc tkR 3 := ⟨fun _ => rfl, fun x u hu => by
 simp only [tkR, List.mem_cons, List.not_mem_nil, or_false] at hu
 rcases hu with rfl | rfl | rfl <;> rfl, by decide⟩
def _root_.Qu.txR (t : Qu.Tk) : List UInt8 := if t.cls = 4 then [46, 46] else if t.cls = 5 then [61] else t.tx
def _root_.Qu.kdR (t : Qu.Tk) : Nat := if t.cls = 0 then 0 else if t.cls = 1 then 4 else if t.cls = 2 then 1 else if t.cls = 3 then 2 else 3
def _root_.Qu.tokR (st : Qu.St) : Qu.RT := ⟨Qu.kdR st.tok, Qu.txR st.tok, st.off⟩
def Ter (st : Qu.St) : Prop := st.tok.cls = 0 ∨ st.tok.cls = 1
instance (st : Qu.St) : Decidable (Ter st) := by unfold Ter; infer_instance
/-- the tokens from a state on -/
def Chn (s : List UInt8) : Qu.St → List Qu.RT → Prop
 | _, [] => False
 | st, t :: ts => t = Qu.tokR st ∧ (if Ter st then ts = [] else Chn s (Qu.adv s st) ts)
/-- the tokens ahead of a state -/
def PreC (s : List UInt8) (st0 : Qu.St) (ts : List Qu.RT) (st : Qu.St) : Prop := ∀ rest, Chn s st rest → Chn s st0 (ts ++ rest)
theorem PreC.start {s : List UInt8} {st : Qu.St} : PreC s st [] st := fun _ h => h
theorem PreC.step {s : List UInt8} {st0 st : Qu.St} {ts : List Qu.RT} (h : PreC s st0 ts st) (hn : ¬ Ter st) : PreC s st0 (ts ++ [Qu.tokR st]) (Qu.adv s st) := fun rest hr => by
 rw [List.append_assoc]
 refine h _ ?_
 show Qu.tokR st = Qu.tokR st ∧ (if Ter st then rest = [] else Chn s (Qu.adv s st) rest)
 rw [if_neg hn]
 exact ⟨rfl, hr⟩
theorem PreC.done {s : List UInt8} {st0 st : Qu.St} {ts : List Qu.RT} (h : PreC s st0 ts st) (hn : Ter st) : Chn s st0 (ts ++ [Qu.tokR st]) := by
 refine h _ ?_
 show Qu.tokR st = Qu.tokR st ∧ (if Ter st then [] = [] else Chn s (Qu.adv s st) [])
 rw [if_pos hn]
 exact ⟨rfl, rfl⟩
theorem Chn.head {s : List UInt8} {st : Qu.St} {ts : List Qu.RT} (h : Chn s st ts) : ts[0]? = some (Qu.tokR st) := by
 cases ts with
 | nil => exact h.elim
 | cons t ts =>
  rw [← h.1]
  rfl
theorem Chn.pos {s : List UInt8} {st : Qu.St} {ts : List Qu.RT} (h : Chn s st ts) : 0 < ts.length := by
 cases ts with
 | nil => exact h.elim
 | cons t ts => exact Nat.succ_pos _
theorem Chn.tail {s : List UInt8} {st : Qu.St} {ts : List Qu.RT} (h : Chn s st ts) (hn : ¬ Ter st) : Chn s (Qu.adv s st) (ts.drop 1) := by
 cases ts with
 | nil => exact h.elim
 | cons t ts =>
  have h2 := h.2
  rw [if_neg hn] at h2
  exact h2
/-- a token's class goes with its text; the place behind it -/
structure Tkn (st : Qu.St) : Prop where
 c5 : st.tok.cls ≤ 5
 t0 : st.tok.cls ≠ 2 → st.tok.cls ≠ 3 → st.tok.tx = []
 w2 : st.tok.cls = 2 → st.tok.tx ≠ [] ∧ st.tok.tx.all Qu.isLt = true
 w3 : st.tok.cls = 3 → st.tok.tx ≠ [] ∧ st.tok.tx.all Qu.isDg = true
 ps : st.pos = st.off + (Qu.txR st.tok).length
theorem runE_all {p : UInt8 → Bool} {s : List UInt8} {i : Nat} : ((s.take (Qu.runE p s i)).drop i).all p = true ∧ ((s.take (Qu.runE p s i)).drop i).length = Qu.runE p s i - i := by
 unfold Qu.runE
 have e : (s.take (i + ((s.drop i).takeWhile p).length)).drop i = (s.drop i).takeWhile p := by
  rw [List.drop_take, Nat.add_sub_cancel_left]
  exact List.prefix_iff_eq_take.1 (List.takeWhile_prefix p) |>.symm
 rw [e]
 exact ⟨List.all_takeWhile, by omega⟩
theorem tkn_none {c o p : Nat} (hc : c = 0 ∨ c = 1 ∨ c = 4 ∨ c = 5) (hp : p = o + (Qu.txR ⟨c, []⟩).length) : Tkn ⟨⟨c, []⟩, o, p⟩ := ⟨by show c ≤ 5; omega, fun _ _ => rfl, fun h => absurd h (by show ¬ c = 2; omega), fun h => absurd h (by show ¬ c = 3; omega), hp⟩
theorem Tkn.nxt {s : List UInt8} (q : Nat) : Tkn (Qu.nxt s q) := by
 unfold Qu.nxt
 split
 ·exact tkn_none (by omega) rfl
 ·next b hb =>
  have hlt := (List.getElem?_eq_some_iff.1 hb).1
  split
  ·next hl =>
   have h := runE_all (p := Qu.isLt) (s := s) (i := Qu.runE Qu.isSp s q)
   have h1 : Qu.runE Qu.isSp s q + 1 ≤ Qu.runE Qu.isLt s (Qu.runE Qu.isSp s q) := by rw [Qu.runE_yes hb hl]; exact Qu.runE_ge _ _ _
   refine ⟨by show (2 : Nat) ≤ 5; decide, fun h0 => absurd rfl h0, fun _ => ⟨fun e => ?_, h.1⟩, fun h => absurd h (by show ¬ (2 : Nat) = 3; decide), ?_⟩
   ·have h2 := h.2
    rw [show (s.take (Qu.runE Qu.isLt s (Qu.runE Qu.isSp s q))).drop (Qu.runE Qu.isSp s q) = [] from e] at h2
    have h3 : (0 : Nat) = Qu.runE Qu.isLt s (Qu.runE Qu.isSp s q) - Qu.runE Qu.isSp s q := h2
    omega
   ·show Qu.runE Qu.isLt s (Qu.runE Qu.isSp s q) = Qu.runE Qu.isSp s q + ((s.take (Qu.runE Qu.isLt s (Qu.runE Qu.isSp s q))).drop (Qu.runE Qu.isSp s q)).length
    rw [h.2]
    omega
  ·split
   ·next hl =>
    have h := runE_all (p := Qu.isDg) (s := s) (i := Qu.runE Qu.isSp s q)
    have h1 : Qu.runE Qu.isSp s q + 1 ≤ Qu.runE Qu.isDg s (Qu.runE Qu.isSp s q) := by rw [Qu.runE_yes hb hl]; exact Qu.runE_ge _ _ _
    refine ⟨by show (3 : Nat) ≤ 5; decide, fun _ h0 => absurd rfl h0, fun h => absurd h (by show ¬ (3 : Nat) = 2; decide), fun _ => ⟨fun e => ?_, h.1⟩, ?_⟩
    ·have h2 := h.2
     rw [show (s.take (Qu.runE Qu.isDg s (Qu.runE Qu.isSp s q))).drop (Qu.runE Qu.isSp s q) = [] from e] at h2
     have h3 : (0 : Nat) = Qu.runE Qu.isDg s (Qu.runE Qu.isSp s q) - Qu.runE Qu.isSp s q := h2
     omega
    ·show Qu.runE Qu.isDg s (Qu.runE Qu.isSp s q) = Qu.runE Qu.isSp s q + ((s.take (Qu.runE Qu.isDg s (Qu.runE Qu.isSp s q))).drop (Qu.runE Qu.isSp s q)).length
     rw [h.2]
     omega
   ·split
    ·exact tkn_none (by omega) rfl
    ·split
     ·exact tkn_none (by omega) rfl
     ·exact tkn_none (by omega) rfl
theorem Tkn.adv {s : List UInt8} (st : Qu.St) : Tkn (Qu.adv s st) := Tkn.nxt _
/-- words are told by their text -/
theorem word_iff {st : Qu.St} (h : Tkn st) {w : List UInt8} (hw : w ≠ []) (hl : w.all Qu.isLt = true) : Qu.txR st.tok = w ↔ st.tok = ⟨2, w⟩ := by
 constructor
 ·intro e
  unfold Qu.txR at e
  split at e
  ·subst e; exact absurd hl (by decide)
  ·split at e
   ·subst e; exact absurd hl (by decide)
   ·by_cases h2 : st.tok.cls = 2
    ·rw [← e, ← h2]
    ·by_cases h3 : st.tok.cls = 3
     ·have h4 := (h.w3 h3).2
      rw [e] at h4
      cases w with
      | nil => exact absurd rfl hw
      | cons b l =>
       simp only [List.all_cons, Bool.and_eq_true] at hl h4
       have := Qu.dg_not_lt h4.1
       rw [hl.1] at this
       cases this
     ·exact absurd ((h.t0 h2 h3).symm.trans e).symm hw
 ·intro e
  rw [e]
  rfl
theorem dots_iff {st : Qu.St} (h : Tkn st) : Qu.txR st.tok = [46, 46] ↔ st.tok = ⟨4, []⟩ := by
 constructor
 ·intro e
  by_cases h4 : st.tok.cls = 4
  ·rw [← h.t0 (by omega) (by omega), ← h4]
  ·unfold Qu.txR at e
   rw [if_neg h4] at e
   split at e
   ·cases e
   ·by_cases h2 : st.tok.cls = 2
    ·have := (h.w2 h2).2
     rw [e] at this
     exact absurd this (by decide)
    ·by_cases h3 : st.tok.cls = 3
     ·have := (h.w3 h3).2
      rw [e] at this
      exact absurd this (by decide)
     ·rw [h.t0 h2 h3] at e
      cases e
 ·intro e
  rw [e]
  rfl
theorem eq_iff {st : Qu.St} (h : Tkn st) : Qu.txR st.tok = [61] ↔ st.tok = ⟨5, []⟩ := by
 constructor
 ·intro e
  by_cases h5 : st.tok.cls = 5
  ·rw [← h.t0 (by omega) (by omega), ← h5]
  ·unfold Qu.txR at e
   split at e
   ·cases e
   ·by_cases h2 : st.tok.cls = 2
    ·have := (h.w2 h2).2
     rw [e] at this
     exact absurd this (by decide)
    ·by_cases h3 : st.tok.cls = 3
     ·have := (h.w3 h3).2
      rw [e] at this
      exact absurd this (by decide)
     ·rw [h.t0 h2 h3] at e
      cases e
 ·intro e
  rw [e]
  rfl
theorem end_iff {st : Qu.St} (h : Tkn st) : Qu.kdR st.tok = 0 ↔ st.tok = ⟨0, []⟩ := by
 constructor
 ·intro e
  by_cases h0 : st.tok.cls = 0
  ·rw [← h.t0 (by omega) (by omega), ← h0]
  ·unfold Qu.kdR at e
   rw [if_neg h0] at e
   split at e
   ·cases e
   ·split at e
    ·cases e
    ·split at e <;> cases e
 ·intro e
  rw [e]
  rfl
theorem num_iff {st : Qu.St} : Qu.kdR st.tok = 2 ↔ st.tok.cls = 3 := by
 unfold Qu.kdR
 by_cases h0 : st.tok.cls = 0
 ·rw [if_pos h0]; omega
 ·rw [if_neg h0]
  by_cases h1 : st.tok.cls = 1
  ·rw [if_pos h1]; omega
  ·rw [if_neg h1]
   by_cases h2 : st.tok.cls = 2
   ·rw [if_pos h2]; omega
   ·rw [if_neg h2]
    by_cases h3 : st.tok.cls = 3
    ·rw [if_pos h3]; omega
    ·rw [if_neg h3]; omega
theorem not_ter_of_tx {st : Qu.St} (h : Tkn st) {t : List UInt8} (ht : t ≠ []) (e : Qu.txR st.tok = t) : ¬ Ter st := fun hx => by
 have h2 : st.tok.cls ≠ 2 := by rcases hx with h0 | h0 <;> omega
 have h3 : st.tok.cls ≠ 3 := by rcases hx with h0 | h0 <;> omega
 unfold Qu.txR at e
 rw [if_neg (by rcases hx with h0 | h0 <;> omega), if_neg (by rcases hx with h0 | h0 <;> omega), h.t0 h2 h3] at e
 exact ht e.symm
theorem ter_iff {st : Qu.St} : Ter st ↔ (Qu.kdR st.tok = 0 ∨ Qu.kdR st.tok = 4) := by
 unfold Ter Qu.kdR
 by_cases h0 : st.tok.cls = 0
 ·rw [if_pos h0]; omega
 ·rw [if_neg h0]
  by_cases h1 : st.tok.cls = 1
  ·rw [if_pos h1]; omega
  ·rw [if_neg h1]
   by_cases h2 : st.tok.cls = 2
   ·rw [if_pos h2]; omega
   ·rw [if_neg h2]
    by_cases h3 : st.tok.cls = 3
    ·rw [if_pos h3]; omega
    ·rw [if_neg h3]; omega
end Go.Proofs.YtlicfidcfhbmpaaDoor

namespace Go.Proofs.YtlicfidcfhbmpaaDoor
set_option maxRecDepth 8000
/-- the reference parser's state: the next token's state, the error, its offset -/
structure _root_.Qu.X where
 st : Qu.St
 e : Nat
 o : Nat
def _root_.Qu.failT (er : Nat) (x : Qu.X) : Qu.X := if x.e = 0 then ⟨x.st, er, x.st.off⟩ else x
def _root_.Qu.unT (x : Qu.X) : Qu.X := Qu.failT (Qu.refN x.st) x
def AccY (t : List UInt8) (x : Qu.X) : Prop := x.e = 0 ∧ Qu.txR x.st.tok = t
instance (t : List UInt8) (x : Qu.X) : Decidable (AccY t x) := by unfold AccY; infer_instance
def _root_.Qu.advT (s : List UInt8) (x : Qu.X) : Qu.X := ⟨Qu.adv s x.st, x.e, x.o⟩
def _root_.Qu.expT (s : List UInt8) (t : List UInt8) (x : Qu.X) : Qu.X := if AccY t x then Qu.advT s x else Qu.unT x
def _root_.Qu.numR (l : List UInt8) : Nat := l.foldl (fun n b => min (n * 10 + (b - 48).toNat) 1000000) 0
def _root_.Qu.numT (s : List UInt8) (lo hi : Nat) (x : Qu.X) : Nat × Qu.X :=
 if x.st.tok.cls = 3 then
  (Qu.numR x.st.tok.tx, if (if Qu.numR x.st.tok.tx < lo ∨ hi < Qu.numR x.st.tok.tx then Qu.failT 1 x else x).e = 0 then Qu.advT s (if Qu.numR x.st.tok.tx < lo ∨ hi < Qu.numR x.st.tok.tx then Qu.failT 1 x else x) else (if Qu.numR x.st.tok.tx < lo ∨ hi < Qu.numR x.st.tok.tx then Qu.failT 1 x else x))
 else (0, Qu.unT x)
def _root_.Qu.tryT (s : List UInt8) (f : Nat → List UInt8) (x : Qu.X) : Nat → Nat → Option Nat × Qu.X
 | _, 0 => (none, x)
 | i, n + 1 => if AccY (f i) x then (some i, Qu.advT s x) else Qu.tryT s f x (i + 1) n
def _root_.Qu.colT (s : List UInt8) (x : Qu.X) : Nat × Qu.X := match (Qu.tryT s Qu.nameN x 0 4).1 with
 | some j => (j, (Qu.tryT s Qu.nameN x 0 4).2)
 | none => (0, Qu.unT x)
def _root_.Qu.condT' (s : List UInt8) (x : Qu.X) : Qu.Cd × Qu.X :=
 if AccY [61] (Qu.colT s x).2 then
  (⟨(Qu.colT s x).1, (Qu.numT s 0 (Qu.maxN (Qu.colT s x).1) (Qu.advT s (Qu.colT s x).2)).1, (Qu.numT s 0 (Qu.maxN (Qu.colT s x).1) (Qu.advT s (Qu.colT s x).2)).1⟩, (Qu.numT s 0 (Qu.maxN (Qu.colT s x).1) (Qu.advT s (Qu.colT s x).2)).2)
 else
  let a := Qu.numT s 0 (Qu.maxN (Qu.colT s x).1) (Qu.expT s [105, 110] (Qu.colT s x).2)
  let b := Qu.numT s a.1 (Qu.maxN (Qu.colT s x).1) (Qu.expT s [46, 46] a.2)
  (⟨(Qu.colT s x).1, a.1, b.1⟩, b.2)
def _root_.Qu.moreT (s : List UInt8) : Nat → List Qu.Cd → Qu.X → List Qu.Cd × Qu.X
 | 0, l, x => (l, x)
 | n + 1, l, x => if AccY [97, 110, 100] x then Qu.moreT s n (l ++ [(Qu.condT' s (Qu.advT s x)).1]) (Qu.condT' s (Qu.advT s x)).2 else (l, x)
def _root_.Qu.filT (s : List UInt8) (x : Qu.X) : List Qu.Cd × Qu.X :=
 if AccY Qu.whereN x then Qu.moreT s 2 [(Qu.condT' s (Qu.advT s x)).1] (Qu.condT' s (Qu.advT s x)).2 else ([], x)
def _root_.Qu.endT (x : Qu.X) : Qu.X := if x.e = 0 ∧ ¬ Qu.kdR x.st.tok = 0 then Qu.unT x else x
def _root_.Qu.outT (q : Qu.Qy) (x : Qu.X) : Qu.Qy × Nat × Nat := if x.e = 0 then (q, 0, 0) else (Qu.zeroQ, x.o, x.e)
/-- behind the keyword -/
def _root_.Qu.colS (s : List UInt8) (k : Nat) (x : Qu.X) : Nat × Qu.X := if Qu.hasC k = true then Qu.colT s x else (0, x)
def _root_.Qu.numS (s : List UInt8) (k : Nat) (x : Qu.X) : Nat × Qu.X := if 0 < Qu.maxK k then Qu.numT s 1 (Qu.maxK k) x else (0, x)
def _root_.Qu.filS (s : List UInt8) (k : Nat) (x : Qu.X) : List (List Qu.Cd) × Qu.X :=
 if k = 7 then ([(Qu.filT s x).1, (Qu.filT s (Qu.expT s Qu.withN (Qu.filT s x).2)).1], (Qu.filT s (Qu.expT s Qu.withN (Qu.filT s x).2)).2) else ([(Qu.filT s x).1], (Qu.filT s x).2)
def _root_.Qu.restT (s : List UInt8) (k : Nat) (x : Qu.X) : Qu.Qy × Nat × Nat :=
 Qu.outT ⟨k, (Qu.colS s k x).1, (Qu.numS s k (Qu.colS s k x).2).1, (Qu.filS s k (Qu.numS s k (Qu.colS s k x).2).2).1⟩ (Qu.endT (Qu.filS s k (Qu.numS s k (Qu.colS s k x).2).2).2)
def _root_.Qu.startX (s : List UInt8) : Qu.X := ⟨Qu.nxt s 0, 0, 0⟩
def _root_.Qu.refP (s : List UInt8) : Qu.Qy × Nat × Nat :=
 if 400 < s.length then (Qu.zeroQ, 0, 2) else match (Qu.tryT s Qu.kwN (Qu.startX s) 1 7).1 with
  | some k => Qu.restT s k (Qu.tryT s Qu.kwN (Qu.startX s) 1 7).2
  | none => (Qu.zeroQ, (Qu.unT (Qu.startX s)).o, (Qu.unT (Qu.startX s)).e)
theorem min_fold (l : List UInt8) : ∀ a b : Nat, min a 65537 = b → min (l.foldl (fun n b => min (n * 10 + (b - 48).toNat) 1000000) a) 65537 = l.foldl (fun n b => min (10 * n + (b - 48).toNat) 65537) b := by
 induction l with
 | nil => intro a b h; exact h
 | cons c l ih =>
  intro a b h
  simp only [List.foldl_cons]
  refine ih _ _ ?_
  generalize (c - 48).toNat = d
  omega
theorem numR_min (l : List UInt8) : min (Qu.numR l) 65537 = Qu.numOf l := min_fold l 0 0 rfl
theorem numR_le (l : List UInt8) : Qu.numR l ≤ 1000000 := by
 unfold Qu.numR
 rcases List.eq_nil_or_concat l with rfl | ⟨l', b, rfl⟩
 ·simp
 ·rw [List.concat_eq_append, List.foldl_append]
  exact Nat.min_le_right _ _
/-- what the reference has behind a step that began without an error -/
structure Agr {α : Type} (r : Qu.Rs α) (v : α) (x : Qu.X) : Prop where
 st : x.st = r.st
 e : x.e = r.err
 v : r.err = 0 → v = r.val
 o : r.err ≠ 0 → x.o = r.st.off
section
variable {s : List UInt8} {x : Qu.X}
theorem unT_bad (h : x.e ≠ 0) : Qu.unT x = x := by
 unfold Qu.unT Qu.failT
 rw [if_neg h]
theorem accN_bad {t : List UInt8} (h : x.e ≠ 0) : ¬ AccY t x := fun a => h a.1
theorem expT_bad {t : List UInt8} (h : x.e ≠ 0) : Qu.expT s t x = x := by
 unfold Qu.expT
 rw [if_neg (accN_bad h), unT_bad h]
theorem numT_bad {lo hi : Nat} (h : x.e ≠ 0) : (Qu.numT s lo hi x).2 = x := by
 unfold Qu.numT Qu.failT
 split
 ·simp only [if_neg h, ite_self]
 ·exact unT_bad h
theorem moreT_bad {l : List Qu.Cd} (h : x.e ≠ 0) : ∀ n, Qu.moreT s n l x = (l, x)
 | 0 => rfl
 | n + 1 => by
  unfold Qu.moreT
  rw [if_neg (accN_bad h)]
theorem filT_bad (h : x.e ≠ 0) : Qu.filT s x = ([], x) := by
 unfold Qu.filT
 rw [if_neg (accN_bad h)]
theorem acc_iff (h0 : x.e = 0) (ht : Tkn x.st) {w : List UInt8} (hw : w ≠ []) (hl : w.all Qu.isLt = true) : AccY w x ↔ x.st.tok = ⟨2, w⟩ :=
 ⟨fun a => (word_iff ht hw hl).1 a.2, fun e => ⟨h0, (word_iff ht hw hl).2 e⟩⟩
theorem unT_agr {α : Type} {u v : α} (h0 : x.e = 0) : Agr ⟨u, Qu.refN x.st, x.st⟩ v (Qu.unT x) := by
 unfold Qu.unT Qu.failT
 rw [if_pos h0]
 exact ⟨rfl, rfl, fun h => absurd h (Qu.refN_ne _), fun _ => rfl⟩
theorem num_agr (h0 : x.e = 0) {lo hi : Nat} (hh : hi ≤ 65536) (hl : lo ≤ 65537) : Agr (Qu.numN s lo hi x.st) (Qu.numT s lo hi x).1 (Qu.numT s lo hi x).2 := by
 have hm := numR_min x.st.tok.tx
 unfold Qu.numN Qu.numT Qu.failT
 by_cases h3 : x.st.tok.cls = 3
 ·rw [if_pos h3, if_pos h3]
  generalize Qu.numR x.st.tok.tx = a at hm ⊢
  generalize Qu.numOf x.st.tok.tx = b at hm ⊢
  by_cases hr : b < lo ∨ hi < b
  ·rw [if_pos hr]
   have hr2 : a < lo ∨ hi < a := by omega
   simp only [if_pos hr2, if_pos h0]
   exact ⟨rfl, rfl, fun h => absurd h (by show (1 : Nat) ≠ 0; decide), fun _ => rfl⟩
  ·rw [if_neg hr]
   have hr2 : ¬ (a < lo ∨ hi < a) := by omega
   simp only [if_neg hr2, if_pos h0]
   exact ⟨rfl, h0, fun _ => by show a = b; omega, fun h => absurd rfl h⟩
 ·rw [if_neg h3, if_neg h3]
  exact unT_agr h0
theorem try_agr (h0 : x.e = 0) (ht : Tkn x.st) {f : Nat → List UInt8} (hf : ∀ i, f i ≠ [] ∧ (f i).all Qu.isLt = true) : ∀ n i, (Qu.tryT s f x i n) = (match Qu.findT f x.st.tok i n with | some j => (some j, Qu.advT s x) | none => (none, x))
 | 0, _ => rfl
 | n + 1, i => by
  unfold Qu.tryT Qu.findT
  by_cases h : x.st.tok = ⟨2, f i⟩
  ·rw [if_pos h, if_pos ((acc_iff h0 ht (hf i).1 (hf i).2).2 h)]
  ·rw [if_neg h, if_neg (fun a => h ((acc_iff h0 ht (hf i).1 (hf i).2).1 a))]
   exact try_agr h0 ht hf n (i + 1)
theorem col_agr (h0 : x.e = 0) (ht : Tkn x.st) : Agr (Qu.colN s x.st) (Qu.colT s x).1 (Qu.colT s x).2 := by
 unfold Qu.colN Qu.pickT Qu.colT
 rw [try_agr h0 ht (fun i => ⟨Qu.nameN_ne i, Qu.nameN_lt i⟩)]
 cases Qu.findT Qu.nameN x.st.tok 0 4 with
 | some j => exact ⟨rfl, h0, fun _ => rfl, fun h => absurd rfl h⟩
 | none => exact unT_agr h0
theorem num_tkn {lo hi : Nat} {st : Qu.St} (h : (Qu.numN s lo hi st).err = 0) : Tkn (Qu.numN s lo hi st).st := by
 unfold Qu.numN at h ⊢
 split at h
 ·next h3 =>
  rw [if_pos h3]
  split at h
  ·cases h
  ·next hr => rw [if_neg hr]; exact Tkn.adv _
 ·next h3 => exact absurd h (Qu.refN_ne _)
theorem pick_tkn {f : Nat → List UInt8} {i n : Nat} {st : Qu.St} (h : (Qu.pickT s f i n st).err = 0) : Tkn (Qu.pickT s f i n st).st := by
 unfold Qu.pickT at h ⊢
 split at h
 ·exact Tkn.adv _
 ·exact absurd h (Qu.refN_ne _)
theorem maxN_le' (c : Nat) : Qu.maxN c ≤ 65536 := Nat.le_trans (Qu.maxN_le c) (by decide)
theorem Agr.bad {α β : Type} {r : Qu.Rs α} {v : α} {x : Qu.X} (h : Agr r v x) (he : ¬ r.err = 0) {u w : β} : Agr ⟨u, r.err, r.st⟩ w x := ⟨h.st, h.e, fun h0 => absurd h0 he, fun _ => h.o he⟩
theorem cond_agr (h0 : x.e = 0) (ht : Tkn x.st) : Agr (Qu.condN s x.st) (Qu.condT' s x).1 (Qu.condT' s x).2 := by
 have ha := col_agr (s := s) h0 ht
 have hk := pick_tkn (s := s) (f := Qu.nameN) (i := 0) (n := 4) (st := x.st)
 unfold Qu.condN Qu.condT'
 rw [show Qu.colN s x.st = Qu.pickT s Qu.nameN 0 4 x.st from rfl] at ha ⊢
 generalize Qu.pickT s Qu.nameN 0 4 x.st = r at ha hk ⊢
 generalize Qu.colT s x = c at ha ⊢
 obtain ⟨v, y⟩ := c
 obtain ⟨y0, ye, yo⟩ := y
 obtain ⟨ast, ae, av, ao⟩ := ha
 replace ast : y0 = r.st := ast
 replace ae : ye = r.err := ae
 subst ast ae
 simp only
 by_cases he : r.err = 0
 ·rw [if_pos he]
  have hv : v = r.val := av he
  have hkk := hk he
  subst hv
  by_cases h5 : r.st.tok = ⟨5, []⟩
  ·rw [if_pos h5, if_pos (show AccY [61] ⟨r.st, r.err, yo⟩ from ⟨he, (eq_iff hkk).2 h5⟩)]
   have hn := num_agr (s := s) (x := Qu.advT s ⟨r.st, r.err, yo⟩) he (lo := 0) (hi := Qu.maxN r.val) (maxN_le' _) (by omega)
   unfold Qu.singleN
   rw [show (Qu.advT s ⟨r.st, r.err, yo⟩).st = Qu.adv s r.st from rfl] at hn
   by_cases h6 : (Qu.numN s 0 (Qu.maxN r.val) (Qu.adv s r.st)).err = 0
   ·rw [if_pos h6]
    refine ⟨hn.st, hn.e.trans h6, fun _ => ?_, fun h => absurd rfl h⟩
    rw [hn.v h6]
   ·rw [if_neg h6]
    exact hn.bad h6
  ·rw [if_neg h5, if_neg (show ¬ AccY [61] ⟨r.st, r.err, yo⟩ from fun a => h5 ((eq_iff hkk).1 a.2))]
   unfold Qu.expN Qu.accS
   have hi : AccY [105, 110] ⟨r.st, r.err, yo⟩ ↔ r.st.tok = ⟨2, [105, 110]⟩ := acc_iff (x := ⟨r.st, r.err, yo⟩) he hkk (List.cons_ne_nil _ _) (by decide)
   by_cases h7 : r.st.tok = ⟨2, [105, 110]⟩
   ·have e1 : Qu.expT s [105, 110] ⟨r.st, r.err, yo⟩ = ⟨Qu.adv s r.st, r.err, yo⟩ := by
     unfold Qu.expT
     rw [if_pos (hi.2 h7)]
     rfl
    simp only [if_pos h7, if_true, e1]
    have hn := num_agr (s := s) (x := ⟨Qu.adv s r.st, r.err, yo⟩) he (lo := 0) (hi := Qu.maxN r.val) (maxN_le' _) (by omega)
    have hnk := num_tkn (s := s) (lo := 0) (hi := Qu.maxN r.val) (st := Qu.adv s r.st)
    replace hn : Agr (Qu.numN s 0 (Qu.maxN r.val) (Qu.adv s r.st)) (Qu.numT s 0 (Qu.maxN r.val) ⟨Qu.adv s r.st, r.err, yo⟩).1 (Qu.numT s 0 (Qu.maxN r.val) ⟨Qu.adv s r.st, r.err, yo⟩).2 := hn
    have hnl := Qu.numN_le s 0 (Qu.maxN r.val) (Qu.adv s r.st)
    unfold Qu.rangeN Qu.expN Qu.accS
    generalize Qu.numN s 0 (Qu.maxN r.val) (Qu.adv s r.st) = a at hn hnk hnl ⊢
    generalize Qu.numT s 0 (Qu.maxN r.val) ⟨Qu.adv s r.st, r.err, yo⟩ = b at hn ⊢
    obtain ⟨bv, z0, ze, zo⟩ := b
    obtain ⟨bst, be, bv', bo⟩ := hn
    replace bst : z0 = a.st := bst
    replace be : ze = a.err := be
    subst bst be
    simp only
    by_cases h8 : a.err = 0
    ·have hbv : bv = a.val := bv' h8
     subst hbv
     rw [if_pos h8]
     have hd : AccY [46, 46] ⟨a.st, a.err, zo⟩ ↔ a.st.tok = ⟨4, []⟩ := ⟨fun q => (dots_iff (hnk h8)).1 q.2, fun e => ⟨h8, (dots_iff (hnk h8)).2 e⟩⟩
     by_cases h9 : a.st.tok = ⟨4, []⟩
     ·have e2 : Qu.expT s [46, 46] ⟨a.st, a.err, zo⟩ = ⟨Qu.adv s a.st, a.err, zo⟩ := by
       unfold Qu.expT
       rw [if_pos (hd.2 h9)]
       rfl
      rw [if_pos h9, if_pos h9, if_pos rfl, e2]
      have hm := num_agr (s := s) (x := ⟨Qu.adv s a.st, a.err, zo⟩) h8 (lo := a.val) (hi := Qu.maxN r.val) (maxN_le' _) hnl
      replace hm : Agr (Qu.numN s a.val (Qu.maxN r.val) (Qu.adv s a.st)) (Qu.numT s a.val (Qu.maxN r.val) ⟨Qu.adv s a.st, a.err, zo⟩).1 (Qu.numT s a.val (Qu.maxN r.val) ⟨Qu.adv s a.st, a.err, zo⟩).2 := hm
      by_cases h10 : (Qu.numN s a.val (Qu.maxN r.val) (Qu.adv s a.st)).err = 0
      ·rw [if_pos h10]
       refine ⟨hm.st, hm.e.trans h10, fun _ => ?_, fun h => absurd rfl h⟩
       rw [hm.v h10]
      ·rw [if_neg h10]
       exact hm.bad h10
     ·have e2 : Qu.expT s [46, 46] ⟨a.st, a.err, zo⟩ = ⟨a.st, Qu.refN a.st, a.st.off⟩ := by
       unfold Qu.expT Qu.unT Qu.failT
       rw [if_neg (fun q => h9 (hd.1 q)), if_pos h8]
      rw [if_neg h9, if_neg h9, if_neg (Qu.refN_ne _), e2]
      rw [numT_bad (x := ⟨a.st, Qu.refN a.st, a.st.off⟩) (Qu.refN_ne _)]
      exact ⟨rfl, rfl, fun h => absurd h (Qu.refN_ne _), fun _ => rfl⟩
    ·rw [if_neg h8, expT_bad (x := ⟨a.st, a.err, zo⟩) h8, numT_bad (x := ⟨a.st, a.err, zo⟩) h8]
     exact ⟨rfl, rfl, fun h => absurd h h8, fun _ => bo h8⟩
   ·have e1 : Qu.expT s [105, 110] ⟨r.st, r.err, yo⟩ = ⟨r.st, Qu.refN r.st, r.st.off⟩ := by
     unfold Qu.expT Qu.unT Qu.failT
     rw [if_neg (fun q => h7 (hi.1 q)), if_pos he]
    simp only [if_neg h7, e1]
    rw [if_neg (Qu.refN_ne _)]
    have hb : ∀ lo hi, (Qu.numT s lo hi ⟨r.st, Qu.refN r.st, r.st.off⟩).2 = ⟨r.st, Qu.refN r.st, r.st.off⟩ := fun lo hi => numT_bad (x := ⟨r.st, Qu.refN r.st, r.st.off⟩) (Qu.refN_ne _)
    rw [hb, expT_bad (x := ⟨r.st, Qu.refN r.st, r.st.off⟩) (Qu.refN_ne _), hb]
    exact ⟨rfl, rfl, fun h => absurd h (Qu.refN_ne _), fun _ => rfl⟩
 ·rw [if_neg he, if_neg (accN_bad (x := ⟨r.st, r.err, yo⟩) he), expT_bad (x := ⟨r.st, r.err, yo⟩) he]
  have hb : ∀ lo hi, (Qu.numT s lo hi ⟨r.st, r.err, yo⟩).2 = ⟨r.st, r.err, yo⟩ := fun lo hi => numT_bad (x := ⟨r.st, r.err, yo⟩) he
  rw [hb, expT_bad (x := ⟨r.st, r.err, yo⟩) he, hb]
  exact ⟨rfl, rfl, fun h => absurd h he, fun _ => ao he⟩
theorem single_tkn {c : Nat} {st : Qu.St} (h : (Qu.singleN s c st).err = 0) : Tkn (Qu.singleN s c st).st := by
 unfold Qu.singleN at h ⊢
 by_cases he : (Qu.numN s 0 (Qu.maxN c) st).err = 0
 ·rw [if_pos he]
  exact num_tkn he
 ·rw [if_neg he] at h
  exact absurd h he
theorem range_tkn {c : Nat} {st : Qu.St} (h : (Qu.rangeN s c st).err = 0) : Tkn (Qu.rangeN s c st).st := by
 unfold Qu.rangeN at h ⊢
 simp only at h ⊢
 by_cases he : (Qu.numN s 0 (Qu.maxN c) st).err = 0
 ·rw [if_pos he] at h ⊢
  by_cases hx : Qu.expN ⟨4, []⟩ (Qu.numN s 0 (Qu.maxN c) st).st = 0
  ·rw [if_pos hx] at h ⊢
   by_cases h2 : (Qu.numN s (Qu.numN s 0 (Qu.maxN c) st).val (Qu.maxN c) (Qu.accS s ⟨4, []⟩ (Qu.numN s 0 (Qu.maxN c) st).st)).err = 0
   ·rw [if_pos h2]
    exact num_tkn h2
   ·rw [if_neg h2] at h
    exact absurd h h2
  ·rw [if_neg hx] at h
   exact absurd h hx
 ·rw [if_neg he] at h
  exact absurd h he
theorem cond_tkn {st : Qu.St} (h : (Qu.condN s st).err = 0) : Tkn (Qu.condN s st).st := by
 unfold Qu.condN at h ⊢
 simp only at h ⊢
 by_cases ha : (Qu.colN s st).err = 0
 ·rw [if_pos ha] at h ⊢
  by_cases h5 : (Qu.colN s st).st.tok = ⟨5, []⟩
  ·rw [if_pos h5] at h ⊢
   exact single_tkn h
  ·rw [if_neg h5] at h ⊢
   by_cases hx : Qu.expN ⟨2, [105, 110]⟩ (Qu.colN s st).st = 0
   ·rw [if_pos hx] at h ⊢
    exact range_tkn h
   ·rw [if_neg hx] at h
    exact absurd h hx
 ·rw [if_neg ha] at h
  exact absurd h ha
theorem more_agr : ∀ (n : Nat) (l : List Qu.Cd) (x : Qu.X), x.e = 0 → Tkn x.st → Agr (Qu.filterN s n [97, 110, 100] l x.st) (Qu.moreT s n l x).1 (Qu.moreT s n l x).2
 | 0, l, x, h0, _ => by
  unfold Qu.filterN Qu.moreT
  exact ⟨rfl, h0, fun _ => rfl, fun h => absurd rfl h⟩
 | n + 1, l, x, h0, ht => by
  unfold Qu.filterN Qu.moreT
  have hi := acc_iff (w := [97, 110, 100]) h0 ht (List.cons_ne_nil _ _) (by decide)
  by_cases h : x.st.tok = ⟨2, [97, 110, 100]⟩
  ·rw [if_pos h, if_pos (hi.2 h)]
   have hc := cond_agr (s := s) (x := Qu.advT s x) h0 (Tkn.adv _)
   rw [show (Qu.advT s x).st = Qu.adv s x.st from rfl] at hc
   have hk := cond_tkn (s := s) (st := Qu.adv s x.st)
   generalize Qu.condN s (Qu.adv s x.st) = c at hc hk ⊢
   generalize Qu.condT' s (Qu.advT s x) = d at hc ⊢
   obtain ⟨v, y⟩ := d
   simp only at hc ⊢
   by_cases he : c.err = 0
   ·rw [if_pos he]
    have ih := more_agr n (l ++ [v]) y (hc.e.trans he) (by rw [hc.st]; exact hk he)
    rw [hc.st] at ih
    rw [← hc.v he]
    exact ih
   ·rw [if_neg he, moreT_bad (x := y) (by rw [hc.e]; exact he)]
    exact hc.bad he
  ·rw [if_neg h, if_neg (fun a => h (hi.1 a))]
   exact ⟨rfl, h0, fun _ => rfl, fun h => absurd rfl h⟩
theorem filter_agr (h0 : x.e = 0) (ht : Tkn x.st) : Agr (Qu.filterN s 3 Qu.whereN [] x.st) (Qu.filT s x).1 (Qu.filT s x).2 := by
 unfold Qu.filterN Qu.filT
 have hi := acc_iff (w := Qu.whereN) h0 ht (List.cons_ne_nil _ _) (by decide)
 by_cases h : x.st.tok = ⟨2, Qu.whereN⟩
 ·rw [if_pos h, if_pos (hi.2 h)]
  have hc := cond_agr (s := s) (x := Qu.advT s x) h0 (Tkn.adv _)
  rw [show (Qu.advT s x).st = Qu.adv s x.st from rfl] at hc
  have hk := cond_tkn (s := s) (st := Qu.adv s x.st)
  generalize Qu.condN s (Qu.adv s x.st) = c at hc hk ⊢
  generalize Qu.condT' s (Qu.advT s x) = d at hc ⊢
  obtain ⟨v, y⟩ := d
  simp only at hc ⊢
  by_cases he : c.err = 0
  ·rw [if_pos he]
   have ih := more_agr (s := s) 2 [v] y (hc.e.trans he) (by rw [hc.st]; exact hk he)
   rw [hc.st] at ih
   rw [← hc.v he]
   exact ih
  ·rw [if_neg he, moreT_bad (x := y) (by rw [hc.e]; exact he)]
   exact hc.bad he
 ·rw [if_neg h, if_neg (fun a => h (hi.1 a))]
  exact ⟨rfl, h0, fun _ => rfl, fun h => absurd rfl h⟩
theorem filter_tkn : ∀ (n : Nat) (w : List UInt8) (l : List Qu.Cd) (st : Qu.St), Tkn st → (Qu.filterN s n w l st).err = 0 → Tkn (Qu.filterN s n w l st).st
 | 0, _, _, _, ht, _ => ht
 | n + 1, w, l, st, ht, h => by
  unfold Qu.filterN at h ⊢
  by_cases h1 : st.tok = ⟨2, w⟩
  ·rw [if_pos h1] at h ⊢
   simp only at h ⊢
   by_cases he : (Qu.condN s (Qu.adv s st)).err = 0
   ·rw [if_pos he] at h ⊢
    exact filter_tkn n _ _ _ (cond_tkn he) h
   ·rw [if_neg he] at h
    exact absurd h he
  ·rw [if_neg h1]
   exact ht
theorem fils_agr (k : Nat) (h0 : x.e = 0) (ht : Tkn x.st) : Agr (Qu.filtersN s (Qu.numF k) [] x.st) (Qu.filS s k x).1 (Qu.filS s k x).2 := by
 have hf := filter_agr (s := s) h0 ht
 have hk := filter_tkn (s := s) 3 Qu.whereN [] x.st ht
 unfold Qu.filS
 have e1 : Qu.filtersN s (Qu.numF k) [] x.st = Qu.filtersN s ((Qu.numF k - 1) + 1) [] x.st := by
  rw [show Qu.numF k - 1 + 1 = Qu.numF k from by unfold Qu.numF; split <;> rfl]
 rw [e1]
 conv => arg 1; unfold Qu.filtersN
 rw [if_pos (show ([] : List (List Qu.Cd)).length = 0 from rfl)]
 simp only
 generalize Qu.filterN s 3 Qu.whereN [] x.st = r at hf hk ⊢
 generalize Qu.filT s x = d at hf ⊢
 obtain ⟨v, y⟩ := d
 simp only at hf ⊢
 by_cases he : r.err = 0
 ·rw [if_pos he]
  have hv : v = r.val := hf.v he
  have hy0 : y.e = 0 := hf.e.trans he
  have hyk : Tkn y.st := by rw [hf.st]; exact hk he
  by_cases h7 : k = 7
  ·subst h7
   rw [if_pos rfl]
   show Agr (Qu.filtersN s 1 ([] ++ [r.val]) r.st) _ _
   conv => arg 1; unfold Qu.filtersN
   rw [if_neg (by simp)]
   have hi := acc_iff (w := Qu.withN) hy0 hyk (List.cons_ne_nil _ _) (by decide)
   rw [hf.st] at hi
   unfold Qu.expN Qu.accS
   by_cases hw : r.st.tok = ⟨2, Qu.withN⟩
   ·have e2 : Qu.expT s Qu.withN y = ⟨Qu.adv s r.st, y.e, y.o⟩ := by
     unfold Qu.expT
     rw [if_pos (hi.2 hw)]
     unfold Qu.advT
     rw [hf.st]
    rw [if_pos hw, if_pos rfl, e2, if_pos hw]
    simp only
    have hf2 := filter_agr (s := s) (x := ⟨Qu.adv s r.st, y.e, y.o⟩) hy0 (Tkn.adv _)
    replace hf2 : Agr (Qu.filterN s 3 Qu.whereN [] (Qu.adv s r.st)) (Qu.filT s ⟨Qu.adv s r.st, y.e, y.o⟩).1 (Qu.filT s ⟨Qu.adv s r.st, y.e, y.o⟩).2 := hf2
    generalize Qu.filterN s 3 Qu.whereN [] (Qu.adv s r.st) = r2 at hf2 ⊢
    by_cases he2 : r2.err = 0
    ·rw [if_pos he2]
     unfold Qu.filtersN
     exact ⟨hf2.st, hf2.e.trans he2, fun _ => by rw [hv, hf2.v he2]; rfl, fun h => absurd rfl h⟩
    ·rw [if_neg he2]
     exact hf2.bad he2
   ·have e2 : Qu.expT s Qu.withN y = ⟨r.st, Qu.refN r.st, r.st.off⟩ := by
     unfold Qu.expT Qu.unT Qu.failT
     rw [if_neg (fun q => hw (hi.1 q)), if_pos hy0, hf.st]
    rw [if_neg hw, if_neg (Qu.refN_ne _), e2, filT_bad (x := ⟨r.st, Qu.refN r.st, r.st.off⟩) (Qu.refN_ne _), if_neg hw]
    exact ⟨rfl, rfl, fun h => absurd h (Qu.refN_ne _), fun _ => rfl⟩
  ·rw [if_neg h7]
   have hn : Qu.numF k - 1 = 0 := by unfold Qu.numF; split <;> simp_all
   rw [hn]
   unfold Qu.filtersN
   exact ⟨hf.st, hy0, fun _ => by rw [hv]; rfl, fun h => absurd rfl h⟩
 ·rw [if_neg he]
  have hy : y.e ≠ 0 := by rw [hf.e]; exact he
  by_cases h7 : k = 7
  ·rw [if_pos h7, expT_bad hy, filT_bad hy]
   exact hf.bad he
  ·rw [if_neg h7]
   exact hf.bad he
theorem fils_tkn {s : List UInt8} {st : Qu.St} (k : Nat) (ht : Tkn st) : (Qu.filtersN s (Qu.numF k) [] st).err = 0 → Tkn (Qu.filtersN s (Qu.numF k) [] st).st := by
 have h : ∀ (n : Nat) (fs : List (List Qu.Cd)) (st : Qu.St), Tkn st → (Qu.filtersN s n fs st).err = 0 → Tkn (Qu.filtersN s n fs st).st := by
  intro n
  induction n with
  | zero => intro fs st ht _; exact ht
  | succ n ih =>
   intro fs st ht h
   unfold Qu.filtersN at h ⊢
   simp only at h ⊢
   by_cases h1 : fs.length = 0
   ·rw [if_pos h1] at h ⊢
    by_cases he : (Qu.filterN s 3 Qu.whereN [] st).err = 0
    ·rw [if_pos he] at h ⊢
     exact ih _ _ (filter_tkn _ _ _ _ ht he) h
    ·rw [if_neg he] at h
     exact absurd h he
   ·rw [if_neg h1] at h ⊢
    by_cases hx : Qu.expN ⟨2, Qu.withN⟩ st = 0
    ·rw [if_pos hx] at h ⊢
     have ht2 : Tkn (Qu.accS s ⟨2, Qu.withN⟩ st) := by
      unfold Qu.accS
      split
      ·exact Tkn.adv _
      ·exact ht
     by_cases he : (Qu.filterN s 3 Qu.whereN [] (Qu.accS s ⟨2, Qu.withN⟩ st)).err = 0
     ·rw [if_pos he] at h ⊢
      exact ih _ _ (filter_tkn _ _ _ _ ht2 he) h
     ·rw [if_neg he] at h
      exact absurd h he
    ·rw [if_neg hx] at h
     exact absurd h hx
 exact h _ _ _ ht
theorem filS_bad {k : Nat} (h : x.e ≠ 0) : (Qu.filS s k x).2 = x := by
 unfold Qu.filS
 split
 ·simp only [filT_bad h, expT_bad h]
 ·simp only [filT_bad h]
theorem numS_bad {k : Nat} (h : x.e ≠ 0) : (Qu.numS s k x).2 = x := by
 unfold Qu.numS
 split
 ·exact numT_bad h
 ·rfl
theorem out_bad {q : Qu.Qy} (h : x.e ≠ 0) : Qu.outT q (Qu.endT x) = (Qu.zeroQ, x.o, x.e) := by
 unfold Qu.endT
 rw [if_neg (fun a => h a.1)]
 unfold Qu.outT
 rw [if_neg h]
theorem rest_agr (k : Nat) (h0 : x.e = 0) (ht : Tkn x.st) : Qu.restT s k x =
  (let b := if Qu.hasC k = true then Qu.colN s x.st else ⟨0, 0, x.st⟩
     if b.err = 0 then
   let c := if 0 < Qu.maxK k then Qu.numN s 1 (Qu.maxK k) b.st else ⟨0, 0, b.st⟩
   if c.err = 0 then
    let d := Qu.filtersN s (Qu.numF k) [] c.st
    if d.err = 0 then (if d.st.tok = ⟨0, []⟩ then (⟨k, b.val, c.val, d.val⟩, 0, 0) else (Qu.zeroQ, d.st.off, Qu.refN d.st)) else (Qu.zeroQ, d.st.off, d.err)
   else (Qu.zeroQ, c.st.off, c.err)
     else (Qu.zeroQ, b.st.off, b.err)) := by
 have hb : Agr (if Qu.hasC k = true then Qu.colN s x.st else ⟨0, 0, x.st⟩) (Qu.colS s k x).1 (Qu.colS s k x).2 ∧ ((if Qu.hasC k = true then Qu.colN s x.st else ⟨0, 0, x.st⟩ : Qu.Rs Nat).err = 0 → Tkn (if Qu.hasC k = true then Qu.colN s x.st else ⟨0, 0, x.st⟩ : Qu.Rs Nat).st) := by
  unfold Qu.colS
  split
  ·exact ⟨col_agr h0 ht, fun e => pick_tkn e⟩
  ·exact ⟨⟨rfl, h0, fun _ => rfl, fun h => absurd rfl h⟩, fun _ => ht⟩
 obtain ⟨hb, hbk⟩ := hb
 unfold Qu.restT
 generalize (if Qu.hasC k = true then Qu.colN s x.st else ⟨0, 0, x.st⟩ : Qu.Rs Nat) = b at hb hbk ⊢
 generalize Qu.colS s k x = y at hb ⊢
 obtain ⟨yv, y⟩ := y
 simp only at hb ⊢
 by_cases hbe : b.err = 0
 ·rw [if_pos hbe]
  have hy0 : y.e = 0 := hb.e.trans hbe
  have hyk : Tkn y.st := by rw [hb.st]; exact hbk hbe
  have hc : Agr (if 0 < Qu.maxK k then Qu.numN s 1 (Qu.maxK k) b.st else ⟨0, 0, b.st⟩) (Qu.numS s k y).1 (Qu.numS s k y).2 ∧ ((if 0 < Qu.maxK k then Qu.numN s 1 (Qu.maxK k) b.st else ⟨0, 0, b.st⟩ : Qu.Rs Nat).err = 0 → Tkn (if 0 < Qu.maxK k then Qu.numN s 1 (Qu.maxK k) b.st else ⟨0, 0, b.st⟩ : Qu.Rs Nat).st) := by
   unfold Qu.numS
   split
   ·have h := num_agr (s := s) hy0 (lo := 1) (Qu.maxK_le k) (by decide)
    rw [hb.st] at h
    exact ⟨h, fun e => num_tkn e⟩
   ·exact ⟨⟨hb.st, hy0, fun _ => rfl, fun h => absurd rfl h⟩, fun _ => by rw [← hb.st]; exact hyk⟩
  obtain ⟨hc, hck⟩ := hc
  generalize (if 0 < Qu.maxK k then Qu.numN s 1 (Qu.maxK k) b.st else ⟨0, 0, b.st⟩ : Qu.Rs Nat) = c at hc hck ⊢
  generalize Qu.numS s k y = z at hc ⊢
  obtain ⟨zv, z⟩ := z
  simp only at hc ⊢
  by_cases hce : c.err = 0
  ·rw [if_pos hce]
   have hz0 : z.e = 0 := hc.e.trans hce
   have hd := fils_agr (s := s) k hz0 (by rw [hc.st]; exact hck hce)
   have hdk : (Qu.filtersN s (Qu.numF k) [] c.st).err = 0 → True := fun _ => trivial
   rw [hc.st] at hd
   have htk : (Qu.filtersN s (Qu.numF k) [] c.st).err = 0 → Tkn (Qu.filtersN s (Qu.numF k) [] c.st).st := fils_tkn k (hck hce)
   generalize Qu.filtersN s (Qu.numF k) [] c.st = d at hd htk ⊢
   generalize Qu.filS s k z = u at hd ⊢
   obtain ⟨uv, u⟩ := u
   simp only at hd ⊢
   by_cases hde : d.err = 0
   ·rw [if_pos hde]
    have hu0 : u.e = 0 := hd.e.trans hde
    have hi := end_iff (htk hde)
    unfold Qu.endT
    rw [hd.st]
    by_cases hend : d.st.tok = ⟨0, []⟩
    ·rw [if_pos hend, if_neg (fun a => a.2 (hi.2 hend))]
     unfold Qu.outT
     rw [if_pos hu0, hb.v hbe, hc.v hce, hd.v hde]
    ·rw [if_neg hend, if_pos ⟨hu0, fun a => hend (hi.1 a)⟩]
     unfold Qu.unT Qu.failT
     rw [if_pos hu0, hd.st]
     unfold Qu.outT
     rw [if_neg (Qu.refN_ne _)]
   ·rw [if_neg hde, out_bad (x := u) (by rw [hd.e]; exact hde), hd.e, hd.o hde]
  ·rw [if_neg hce]
   have hz : z.e ≠ 0 := by rw [hc.e]; exact hce
   rw [filS_bad hz, out_bad hz, hc.e, hc.o hce]
 ·rw [if_neg hbe]
  have hy : y.e ≠ 0 := by rw [hb.e]; exact hbe
  rw [numS_bad hy, filS_bad hy, out_bad hy, hb.e, hb.o hbe]
/-- the reference answers as the program does -/
theorem refP_parseN (s : List UInt8) : Qu.refP s = Qu.parseN s := by
 unfold Qu.refP Qu.parseN
 by_cases hl : 400 < s.length
 ·rw [if_pos hl, if_pos hl]
 ·rw [if_neg hl, if_neg hl, try_agr (x := Qu.startX s) rfl (Tkn.nxt 0) (fun i => ⟨Qu.kwN_ne i, Qu.kwN_lt i⟩)]
  unfold Qu.queryN Qu.kindN Qu.pickT
  rw [show (Qu.startX s).st = Qu.nxt s 0 from rfl]
  cases Qu.findT Qu.kwN (Qu.nxt s 0).tok 1 7 with
  | none =>
   simp only
   rw [if_neg (Qu.refN_ne _), if_neg (Qu.refN_ne _)]
   rfl
  | some k =>
   simp only [if_true]
   rw [rest_agr (x := Qu.advT s (Qu.startX s)) k rfl (Tkn.adv _)]
   rw [show (Qu.advT s (Qu.startX s)).st = Qu.adv s (Qu.nxt s 0) from rfl]
   simp only
   generalize (if Qu.hasC k = true then Qu.colN s (Qu.adv s (Qu.nxt s 0)) else ⟨0, 0, Qu.adv s (Qu.nxt s 0)⟩ : Qu.Rs Nat) = b
   by_cases hbe : b.err = 0
   ·rw [if_pos hbe, if_pos hbe]
    generalize (if 0 < Qu.maxK k then Qu.numN s 1 (Qu.maxK k) b.st else ⟨0, 0, b.st⟩ : Qu.Rs Nat) = c
    by_cases hce : c.err = 0
    ·rw [if_pos hce, if_pos hce]
     generalize Qu.filtersN s (Qu.numF k) [] c.st = d
     by_cases hde : d.err = 0
     ·rw [if_pos hde, if_pos hde]
      unfold Qu.expN Qu.accS
      by_cases hend : d.st.tok = ⟨0, []⟩
      ·simp only [if_pos hend, if_true]
      ·simp only [if_neg hend, if_neg (Qu.refN_ne _)]
     ·simp only [if_neg hde]
    ·simp only [if_neg hce]
   ·simp only [if_neg hbe]
end
end Go.Proofs.YtlicfidcfhbmpaaDoor

namespace Go.Proofs.YtlicfidcfhbmpaaDoor
set_option maxRecDepth 8000
open Go.RowKit Go.Proofs.YtlicfidcfhbmpaaDoor.K
attribute [local irreducible] wpList wpQuiet
/-- tokens in memory -/
structure TS (w : World) (A : Option Addr) (n c : Nat) (ts : List Qu.RT) : Prop where
 sg : Sg tkR 3 w A n c ts
 ob : ∀ a : Addr, A = some a → a.spot = none ∧ ∃ cs, w.heap[a.block]? = some (.cells cs 85 (0, 0))
section
variable {w w' : World} {A : Option Addr} {n c : Nat} {ts : List Qu.RT}
theorem TS.keep (h : TS w A n c ts) (hb : Below w.heap.size w w') : TS w' A n c ts := ⟨h.sg.keep hb, fun a e => by obtain ⟨h0, cs, hc⟩ := h.ob a e; exact ⟨h0, cs, heap_keep hc hb⟩⟩
theorem TS.far {b : Nat} {ds : Array Value} {u : TypeId} (h : TS w A n c ts) (hb : w.heap[b]? = some (.cells ds u (0, 0))) (hu : u ≠ 85) (hfar : ∀ k o, k ≠ b → w.heap[k]? = some o → w'.heap[k]? = some o) : TS w' A n c ts := by
 have hne : ∀ a : Addr, A = some a → a.block ≠ b := fun a e => by
  obtain ⟨_, cs, hc⟩ := h.ob a e
  exact ne_types hc hb (Ne.symm hu)
 refine ⟨⟨h.sg.len, h.sg.cap, h.sg.top, h.sg.nil, fun i x hx => ?_⟩, fun a e => ?_⟩
 ·obtain ⟨g, off, e, hr⟩ := h.sg.at_ i x hx
  exact ⟨g, off, e, rng_store hr (hne _ e) hfar⟩
 ·obtain ⟨h0, cs, hc⟩ := h.ob a e
  exact ⟨h0, cs, hfar _ _ (hne a e) hc⟩
theorem TS.drop (h : TS w A n c ts) (hn : 1 ≤ n) : TS w (if c = 1 then A else A.map (·.add (1 * 3))) (n - 1) (c - 1) (ts.drop 1) := by
 have hl := h.sg.len
 have hc := h.sg.cap
 have ht := h.sg.top
 refine ⟨⟨by rw [List.length_drop, hl], by omega, by omega, fun e => ?_, fun i x hx => ?_⟩, fun g e => ?_⟩
 ·split at e
  ·omega
  ·cases A with
   | none => have := h.sg.nil rfl; omega
   | some a => cases e
 ·rw [List.getElem?_drop] at hx
  obtain ⟨g, off, e, hr⟩ := h.sg.at_ (1 + i) x hx
  have hi := (List.getElem?_eq_some_iff.1 hx).1
  rw [if_neg (by omega), e]
  refine ⟨g, off + 3, by simp [Addr.add_mid], ?_⟩
  rw [show off + 3 + i * 3 = off + (1 + i) * 3 by omega]
  exact hr
 ·split at e
  ·exact h.ob g e
  ·cases hA : A with
   | none => rw [hA] at e; cases e
   | some a =>
    rw [hA] at e
    obtain ⟨h1, h2⟩ := h.ob a hA
    obtain ⟨b, o2, s2⟩ := a
    replace h1 : s2 = none := h1
    subst h1
    simp [Addr.add_mid] at e
    subst e
    exact ⟨rfl, h2⟩
theorem TS.grown {b0 size n0 : Nat} {e : TypeId} {v : Value} {cs : List Value} (h : TS w A n c ts) (ho : w.ownsRow b0 e size v n0 cs) (hg : w.grownBy w' v.ownBlock) (hne : 85 ≠ e) : TS w' A n c ts := by
 have hk : ∀ a : Addr, A = some a → w'.heap[a.block]? = w.heap[a.block]? := fun a e => by
  obtain ⟨_, cs, hc⟩ := h.ob a e
  rw [own_rowkeep ho hg hc hne, hc]
 refine ⟨⟨h.sg.len, h.sg.cap, h.sg.top, h.sg.nil, fun i x hx => ?_⟩, fun a e => ?_⟩
 ·obtain ⟨g, off, e, hr⟩ := h.sg.at_ i x hx
  exact ⟨g, off, e, fun j u hj => (World.cell?_of_block (show w'.heap[(⟨g, off + i * 3 + j, none⟩ : Addr).block]? = w.heap[(⟨g, off + i * 3 + j, none⟩ : Addr).block]? from hk ⟨g, off, none⟩ e)).trans (hr j u hj)⟩
 ·obtain ⟨h0, cs, hc⟩ := h.ob a e
  exact ⟨h0, cs, (hk a e).trans hc⟩
end
/-- the reference's parser in memory -/
structure PR (w : World) (bp : Nat) (s : List UInt8) (x : Qu.X) (A : Option Addr) (n c : Nat) (ts : List Qu.RT) : Prop where
 row : w.heap[bp]? = some (.cells #[.slice A n c, .int .i64 (x.o : Int), .int .i64 (x.e : Int)] 79 (0, 0))
 tt : TS w A n c ts
 ch : Chn s x.st ts
 tk : Tkn x.st
 ok : Qu.Ok s x.st
def PX (w : World) (bp : Nat) (s : List UInt8) (x : Qu.X) : Prop := ∃ A n c ts, PR w bp s x A n c ts
section
variable {w w' : World} {bp : Nat} {s : List UInt8} {x : Qu.X} {A : Option Addr} {n c : Nat} {ts : List Qu.RT}
theorem PR.keep (h : PR w bp s x A n c ts) (hb : Below w.heap.size w w') : PR w' bp s x A n c ts := ⟨heap_keep h.row hb, h.tt.keep hb, h.ch, h.tk, h.ok⟩
theorem PR.far {b : Nat} {ds : Array Value} {u : TypeId} (h : PR w bp s x A n c ts) (hb : w.heap[b]? = some (.cells ds u (0, 0))) (h0 : bp ≠ b) (hu : u ≠ 85) (hfar : ∀ k o, k ≠ b → w.heap[k]? = some o → w'.heap[k]? = some o) : PR w' bp s x A n c ts := ⟨hfar _ _ h0 h.row, h.tt.far hb hu hfar, h.ch, h.tk, h.ok⟩
end
set_option maxRecDepth 100000 in
set_option maxHeartbeats 16000000 in
theorem fail_as (s : List UInt8) (bp : Nat) (x : Qu.X) (A : Option Addr) (n c : Nat) (ts : List Qu.RT) (w : World) (hP : PR w bp s x A n c ts) (er : Nat) :
  Calls Tryd.prog 63 #[.pointer (some ⟨bp, 0, none⟩), .int .i64 (er : Int)] w fun e w' => e = .returned (.tuple #[]) ∧ PX w' bp s (Qu.failT er x) ∧ FarC bp bp w w' := by
 obtain ⟨V, hV0, hV⟩ := base_world w
 have B0 := zh hV
 have HVW := zh hV
 clear hV
 have HF := zh (FarH.refl bp bp w)
 have HTS := zh hP.tt
 have HCH := zh hP.ch
 have HTK := zh hP.tk
 have HOK := zh hP.ok
 have hln := hP.tt.sg.len
 have hcp := hP.tt.sg.cap
 have htp := hP.tt.sg.top
 have hps := hP.ch.pos
 have Hpbp : Hid (w.heap[bp]? = some (.cells #[.slice A n c, .int .i64 (x.o : Int), .int .i64 (x.e : Int)] 79 (0, 0))) := zh (hP.row)
 have Gpbp : Hid (V.heap.size ≤ bp) := zh (by omega)
 have Lpbp : Hid (bp < w.heap.size) := zh (xp_lt Hpbp.out)
 have hbp0 := xp_lt hP.row
 clear hP
 go_enter Tryd.func63, Tryd.ntmps63
 go_upto_region 0 with fail
 by_cases he : x.e = 0
 ·refine wp_region_lit ?_
  refine zr (.pointer (some ⟨bp, 0, none⟩)) w rfl ?_
  simp only [Act.put, zA]
  refine zr (.pointer (some ⟨bp, 0, none⟩)) w (xo_nil _ rfl rfl) ?_
  simp only [Act.put, zA]
  refine zr (.pointer (some ⟨bp, 2, none⟩)) w (xo_fld0 2 bp 2 (by kernel_rfl) rfl rfl) ?_
  simp only [Act.put, zA]
  refine zr (.int .i64 (x.e : Int)) w (xo_load1 ⟨bp, 2, none⟩ _ (cells_at Hpbp.out 2 rfl) Tryd.underlying35 rfl rfl rfl) ?_
  simp only [Act.put, zA]
  refine zr (.bool true) w (xo_eqlT .i64 ((x.e : Nat) : Int) 0 (by omega) rfl rfl rfl) ?_
  simp only [Act.put, zA]
  refine wpList_nil ?_
  go_upto_region 1 with fail
  refine wp_region_lit ?_
  refine zr (.pointer (some ⟨bp, 0, none⟩)) w rfl ?_
  simp only [Act.put, zA]
  refine zr (.int .i64 (er : Int)) w rfl ?_
  simp only [Act.put, zA]
  refine zr (.pointer (some ⟨bp, 0, none⟩)) w (xo_nil _ rfl rfl) ?_
  simp only [Act.put, zA]
  refine zr (.pointer (some ⟨bp, 2, none⟩)) w (xo_fld0 2 bp 2 (by kernel_rfl) rfl rfl) ?_
  simp only [Act.put, zA]
  refine wpList_store1 bp 2 #[.slice A n c, .int .i64 (x.o : Int), .int .i64 (x.e : Int)] (.int .i64 (er : Int)) 79 (by kernel_rfl) Hpbp.out (xo_store1 bp 2 #[.slice A n c, .int .i64 (x.o : Int), .int .i64 (x.e : Int)] _ (.int .i64 (er : Int)) Hpbp.out rfl (by kernel_rfl) rfl rfl rfl rfl) ?_
  intro X1_0 h1 hfar hbel hsz
  have YHF : FarH bp bp w X1_0 := FarH.store HF.out (.inl rfl) hsz hfar
  have YHTS : TS X1_0 A n c ts := TS.far HTS.out Hpbp.out (by decide) hfar
  have hbr := hbel _ _ Gpbp.out B0.out
  clear B0
  have B0 := zh hbr
  clear hbr
  clear HF
  have HF := zh YHF
  clear YHF
  clear HTS
  have HTS := zh YHTS
  clear YHTS
  clear Hpbp
  have Hpbp : Hid (X1_0.heap[bp]? = some (.cells #[.slice A n c, .int .i64 (x.o : Int), .int .i64 (er : Int)] 79 (0, 0))) := zh (h1)
  have HszX1_0 := zh hsz
  clear h1 hfar hbel hsz
  simp only [ptr, Act.put, zA]
  refine wpList_nil ?_
  go_upto_region 2 with fail
  refine wp_region_lit ?_
  refine zr (.pointer (some ⟨bp, 0, none⟩)) X1_0 rfl ?_
  simp only [Act.put, zA]
  refine zr (.pointer (some ⟨bp, 0, none⟩)) X1_0 rfl ?_
  simp only [Act.put, zA]
  refine zr (.pointer (some ⟨bp, 0, none⟩)) X1_0 (xo_nil _ rfl rfl) ?_
  simp only [Act.put, zA]
  refine zr (.pointer (some ⟨bp, 0, none⟩)) X1_0 (xo_fld0 0 bp 0 (by kernel_rfl) rfl rfl) ?_
  simp only [Act.put, zA]
  refine zr (.slice A n c) X1_0 (xo_load1 ⟨bp, 0, none⟩ _ (cells_at Hpbp.out 0 rfl) Tryd.underlying76 rfl rfl rfl) ?_
  simp only [Act.put, zA]
  refine zr (.pointer (some (gad A (0 * 3)))) X1_0 (xg_idx .i64 HTS.out.sg HCH.out.head Tryd.underlying76 (by kernel_rfl) rfl rfl rfl) ?_
  simp only [Act.put, zA]
  refine zr (.pointer (some (gad A ((0 * 3) + 2)))) X1_0 (xg_fld 2 HTS.out.sg HCH.out.head (by kernel_rfl) rfl rfl) ?_
  simp only [Act.put, zA]
  refine zr (.int .i64 ((Qu.tokR x.st).off : Int)) X1_0 (xg_load1 (E := tkR) (i := 0) (j := 2) HTS.out.sg HCH.out.head rfl rfl Tryd.underlying3 rfl rfl rfl) ?_
  simp only [Act.put, zA]
  refine zr (.pointer (some ⟨bp, 0, none⟩)) X1_0 (xo_nil _ rfl rfl) ?_
  simp only [Act.put, zA]
  refine zr (.pointer (some ⟨bp, 1, none⟩)) X1_0 (xo_fld0 1 bp 1 (by kernel_rfl) rfl rfl) ?_
  simp only [Act.put, zA]
  refine wpList_store1 bp 1 #[.slice A n c, .int .i64 (x.o : Int), .int .i64 (er : Int)] (.int .i64 ((Qu.tokR x.st).off : Int)) 79 (by kernel_rfl) Hpbp.out (xo_store1 bp 1 #[.slice A n c, .int .i64 (x.o : Int), .int .i64 (er : Int)] _ (.int .i64 ((Qu.tokR x.st).off : Int)) Hpbp.out rfl (by kernel_rfl) rfl rfl rfl rfl) ?_
  intro X1_1 h1 hfar hbel hsz
  have YHF : FarH bp bp w X1_1 := FarH.store HF.out (.inl rfl) hsz hfar
  have YHTS : TS X1_1 A n c ts := TS.far HTS.out Hpbp.out (by decide) hfar
  have hbr := hbel _ _ Gpbp.out B0.out
  clear B0
  have B0 := zh hbr
  clear hbr
  clear HF
  have HF := zh YHF
  clear YHF
  clear HTS
  have HTS := zh YHTS
  clear YHTS
  clear Hpbp
  have Hpbp : Hid (X1_1.heap[bp]? = some (.cells #[.slice A n c, .int .i64 ((Qu.tokR x.st).off : Int), .int .i64 (er : Int)] 79 (0, 0))) := zh (h1)
  have HszX1_1 := zh hsz
  clear h1 hfar hbel hsz
  simp only [ptr, Act.put, zA]
  refine wpList_nil ?_
  have e0 : Qu.failT er x = ⟨x.st, er, x.st.off⟩ := by unfold Qu.failT; rw [if_pos he]
  have hsf : PX X1_1 bp s (Qu.failT er x) := by rw [e0]; exact ⟨_, _, _, _, Hpbp.out, HTS.out, HCH.out, HTK.out, HOK.out⟩
  have hff := farc_mk HF.out HVW.out B0.out
  try clear e0
  go_wp2_with fail
  go_end0
  exact ⟨rfl, hsf, hff⟩
 ·refine wp_region_lit ?_
  refine zr (.pointer (some ⟨bp, 0, none⟩)) w rfl ?_
  simp only [Act.put, zA]
  refine zr (.pointer (some ⟨bp, 0, none⟩)) w (xo_nil _ rfl rfl) ?_
  simp only [Act.put, zA]
  refine zr (.pointer (some ⟨bp, 2, none⟩)) w (xo_fld0 2 bp 2 (by kernel_rfl) rfl rfl) ?_
  simp only [Act.put, zA]
  refine zr (.int .i64 (x.e : Int)) w (xo_load1 ⟨bp, 2, none⟩ _ (cells_at Hpbp.out 2 rfl) Tryd.underlying35 rfl rfl rfl) ?_
  simp only [Act.put, zA]
  refine zr (.bool false) w (xo_eqlF .i64 ((x.e : Nat) : Int) 0 (by omega) rfl rfl rfl) ?_
  simp only [Act.put, zA]
  refine wpList_nil ?_
  have e0 : Qu.failT er x = x := by unfold Qu.failT; rw [if_neg he]
  have hsf : PX w bp s (Qu.failT er x) := by rw [e0]; exact ⟨_, _, _, _, Hpbp.out, HTS.out, HCH.out, HTK.out, HOK.out⟩
  have hff := farc_mk HF.out HVW.out B0.out
  try clear e0
  go_wp2_with fail
  go_end0
  exact ⟨rfl, hsf, hff⟩
set_option maxRecDepth 100000 in
set_option maxHeartbeats 16000000 in
theorem unexp_as (s : List UInt8) (bp : Nat) (x : Qu.X) (A : Option Addr) (n c : Nat) (ts : List Qu.RT) (w : World) (hP : PR w bp s x A n c ts) :
  Calls Tryd.prog 46 #[.pointer (some ⟨bp, 0, none⟩)] w fun e w' => e = .returned (.tuple #[]) ∧ PX w' bp s (Qu.unT x) ∧ FarC bp bp w w' := by
 obtain ⟨V, hV0, hV⟩ := base_world w
 have B0 := zh hV
 have HVW := zh hV
 clear hV
 have HF := zh (FarH.refl bp bp w)
 have HTS := zh hP.tt
 have HCH := zh hP.ch
 have HTK := zh hP.tk
 have HOK := zh hP.ok
 have hln := hP.tt.sg.len
 have hcp := hP.tt.sg.cap
 have htp := hP.tt.sg.top
 have hps := hP.ch.pos
 have Hpbp : Hid (w.heap[bp]? = some (.cells #[.slice A n c, .int .i64 (x.o : Int), .int .i64 (x.e : Int)] 79 (0, 0))) := zh (hP.row)
 have Gpbp : Hid (V.heap.size ≤ bp) := zh (by omega)
 have Lpbp : Hid (bp < w.heap.size) := zh (xp_lt Hpbp.out)
 have hbp0 := xp_lt hP.row
 clear hP
 go_enter Tryd.func46, Tryd.ntmps46
 go_upto_region 0 with fail
 have HTK0 := HTK
 by_cases hk : Qu.kdR x.st.tok = 0
 ·refine wp_region_lit ?_
  refine zr (.pointer (some ⟨bp, 0, none⟩)) w rfl ?_
  simp only [Act.put, zA]
  refine zr (.pointer (some ⟨bp, 0, none⟩)) w (xo_nil _ rfl rfl) ?_
  simp only [Act.put, zA]
  refine zr (.pointer (some ⟨bp, 0, none⟩)) w (xo_fld0 0 bp 0 (by kernel_rfl) rfl rfl) ?_
  simp only [Act.put, zA]
  refine zr (.slice A n c) w (xo_load1 ⟨bp, 0, none⟩ _ (cells_at Hpbp.out 0 rfl) Tryd.underlying76 rfl rfl rfl) ?_
  simp only [Act.put, zA]
  refine zr (.pointer (some (gad A (0 * 3)))) w (xg_idx .i64 HTS.out.sg HCH.out.head Tryd.underlying76 (by kernel_rfl) rfl rfl rfl) ?_
  simp only [Act.put, zA]
  refine zr (.pointer (some (gad A ((0 * 3) + 0)))) w (xg_fld 0 HTS.out.sg HCH.out.head (by kernel_rfl) rfl rfl) ?_
  simp only [Act.put, zA]
  refine zr (.int .i64 ((Qu.tokR x.st).kind : Int)) w (xg_load1 (E := tkR) (i := 0) (j := 0) HTS.out.sg HCH.out.head rfl rfl Tryd.underlying3 rfl rfl rfl) ?_
  simp only [Act.put, zA]
  refine zr (.bool true) w (xo_eqlT .i64 (((Qu.tokR x.st).kind : Nat) : Int) 0 (show ((Qu.kdR x.st.tok : Nat) : Int) = 0 by omega) rfl rfl rfl) ?_
  simp only [Act.put, zA]
  refine wpList_nil ?_
  go_upto_region 1 with fail
  refine wp_region_lit ?_
  refine zr (.pointer (some ⟨bp, 0, none⟩)) w rfl ?_
  simp only [Act.put, zA]
  refine wpList_call (by kernel_rfl) 63 Tryd.func63 (by kernel_rfl) (by kernel_rfl) _ _ #[.pointer (some ⟨bp, 0, none⟩), .int .i64 131] rfl (by kernel_rfl) ?_
  refine (fail_as s bp x A n c ts w ⟨Hpbp.out, HTS.out, HCH.out, HTK.out, HOK.out⟩ 131).mono ?_
  rintro e W1_0 ⟨rfl, ⟨A_0, n_0, c_0, t_0, hpr⟩, hfc⟩
  have YHF : FarH bp bp w W1_0 := FarH.farC HF.out hfc
  have hb := farc_bel hV0 B0.out hfc
  have hbr := hb
  clear B0
  have B0 := zh hbr
  clear hbr
  clear hb
  clear HF
  have HF : Hid (FarH bp bp w W1_0) := zh YHF
  clear YHF
  have hln_0 := hpr.tt.sg.len
  have hcp_0 := hpr.tt.sg.cap
  have htp_0 := hpr.tt.sg.top
  have hps_0 := hpr.ch.pos
  try clear HTS
  have HTS := zh hpr.tt 
  try clear HCH
  have HCH := zh hpr.ch 
  try clear HTK
  have HTK := zh hpr.tk 
  try clear HOK
  have HOK := zh hpr.ok 
  clear Hpbp
  have Hpbp : Hid (W1_0.heap[bp]? = some (.cells #[.slice A_0 n_0 c_0, .int .i64 ((Qu.failT 131 x).o : Int), .int .i64 ((Qu.failT 131 x).e : Int)] 79 (0, 0))) := zh (hpr.row)
  clear hfc 
  refine ⟨_, rfl, ?_⟩
  simp only [Act.put, zA]
  refine wpList_nil ?_
  have e0 : Qu.unT x = Qu.failT 131 x := by unfold Qu.unT Qu.refN; rw [if_pos ((end_iff HTK0.out).1 hk)]
  have hsf : PX W1_0 bp s (Qu.unT x) := by rw [e0]; exact ⟨_, _, _, _, Hpbp.out, HTS.out, HCH.out, HTK.out, HOK.out⟩
  have hff := farc_mk HF.out HVW.out B0.out
  try clear e0
  go_wp2_with fail
  go_end0
  exact ⟨rfl, hsf, hff⟩
 ·refine wp_region_lit ?_
  refine zr (.pointer (some ⟨bp, 0, none⟩)) w rfl ?_
  simp only [Act.put, zA]
  refine zr (.pointer (some ⟨bp, 0, none⟩)) w (xo_nil _ rfl rfl) ?_
  simp only [Act.put, zA]
  refine zr (.pointer (some ⟨bp, 0, none⟩)) w (xo_fld0 0 bp 0 (by kernel_rfl) rfl rfl) ?_
  simp only [Act.put, zA]
  refine zr (.slice A n c) w (xo_load1 ⟨bp, 0, none⟩ _ (cells_at Hpbp.out 0 rfl) Tryd.underlying76 rfl rfl rfl) ?_
  simp only [Act.put, zA]
  refine zr (.pointer (some (gad A (0 * 3)))) w (xg_idx .i64 HTS.out.sg HCH.out.head Tryd.underlying76 (by kernel_rfl) rfl rfl rfl) ?_
  simp only [Act.put, zA]
  refine zr (.pointer (some (gad A ((0 * 3) + 0)))) w (xg_fld 0 HTS.out.sg HCH.out.head (by kernel_rfl) rfl rfl) ?_
  simp only [Act.put, zA]
  refine zr (.int .i64 ((Qu.tokR x.st).kind : Int)) w (xg_load1 (E := tkR) (i := 0) (j := 0) HTS.out.sg HCH.out.head rfl rfl Tryd.underlying3 rfl rfl rfl) ?_
  simp only [Act.put, zA]
  refine zr (.bool false) w (xo_eqlF .i64 (((Qu.tokR x.st).kind : Nat) : Int) 0 (show ¬ ((Qu.kdR x.st.tok : Nat) : Int) = 0 by omega) rfl rfl rfl) ?_
  simp only [Act.put, zA]
  refine wpList_nil ?_
  go_upto_region 2 with fail
  refine wp_region_lit ?_
  refine zr (.pointer (some ⟨bp, 0, none⟩)) w rfl ?_
  simp only [Act.put, zA]
  refine wpList_call (by kernel_rfl) 63 Tryd.func63 (by kernel_rfl) (by kernel_rfl) _ _ #[.pointer (some ⟨bp, 0, none⟩), .int .i64 130] rfl (by kernel_rfl) ?_
  refine (fail_as s bp x A n c ts w ⟨Hpbp.out, HTS.out, HCH.out, HTK.out, HOK.out⟩ 130).mono ?_
  rintro e W1_0 ⟨rfl, ⟨A_1, n_1, c_1, t_1, hpr⟩, hfc⟩
  have YHF : FarH bp bp w W1_0 := FarH.farC HF.out hfc
  have hb := farc_bel hV0 B0.out hfc
  have hbr := hb
  clear B0
  have B0 := zh hbr
  clear hbr
  clear hb
  clear HF
  have HF : Hid (FarH bp bp w W1_0) := zh YHF
  clear YHF
  have hln_1 := hpr.tt.sg.len
  have hcp_1 := hpr.tt.sg.cap
  have htp_1 := hpr.tt.sg.top
  have hps_1 := hpr.ch.pos
  try clear HTS
  have HTS := zh hpr.tt 
  try clear HCH
  have HCH := zh hpr.ch 
  try clear HTK
  have HTK := zh hpr.tk 
  try clear HOK
  have HOK := zh hpr.ok 
  clear Hpbp
  have Hpbp : Hid (W1_0.heap[bp]? = some (.cells #[.slice A_1 n_1 c_1, .int .i64 ((Qu.failT 130 x).o : Int), .int .i64 ((Qu.failT 130 x).e : Int)] 79 (0, 0))) := zh (hpr.row)
  clear hfc 
  refine ⟨_, rfl, ?_⟩
  simp only [Act.put, zA]
  refine wpList_nil ?_
  have e0 : Qu.unT x = Qu.failT 130 x := by unfold Qu.unT Qu.refN; rw [if_neg (fun e => hk ((end_iff HTK0.out).2 e))]
  have hsf : PX W1_0 bp s (Qu.unT x) := by rw [e0]; exact ⟨_, _, _, _, Hpbp.out, HTS.out, HCH.out, HTK.out, HOK.out⟩
  have hff := farc_mk HF.out HVW.out B0.out
  try clear e0
  go_wp2_with fail
  go_end0
  exact ⟨rfl, hsf, hff⟩
set_option maxRecDepth 100000 in
set_option maxHeartbeats 16000000 in
theorem raccept_yes (s : List UInt8) (bp : Nat) (x : Qu.X) (A : Option Addr) (n c : Nat) (ts : List Qu.RT) (w : World) (hP : PR w bp s x A n c ts) (t : List UInt8) (ht : t ≠ []) (ha : AccY t x) :
  Calls Tryd.prog 45 #[.pointer (some ⟨bp, 0, none⟩), .string (sB t)] w fun e w' => e = .returned (.bool true) ∧ PX w' bp s (Qu.advT s x) ∧ FarC bp bp w w' := by
 obtain ⟨V, hV0, hV⟩ := base_world w
 have B0 := zh hV
 have HVW := zh hV
 clear hV
 have HF := zh (FarH.refl bp bp w)
 have HTS := zh hP.tt
 have HCH := zh hP.ch
 have HTK := zh hP.tk
 have HOK := zh hP.ok
 have hln := hP.tt.sg.len
 have hcp := hP.tt.sg.cap
 have htp := hP.tt.sg.top
 have hps := hP.ch.pos
 have Hpbp : Hid (w.heap[bp]? = some (.cells #[.slice A n c, .int .i64 (x.o : Int), .int .i64 (x.e : Int)] 79 (0, 0))) := zh (hP.row)
 have Gpbp : Hid (V.heap.size ≤ bp) := zh (by omega)
 have Lpbp : Hid (bp < w.heap.size) := zh (xp_lt Hpbp.out)
 have hbp0 := xp_lt hP.row
 clear hP
 go_enter Tryd.func45, Tryd.ntmps45
 go_upto_region 1 with fail
 obtain ⟨ha1, ha2⟩ := ha
 have hnt : ¬ Ter x.st := not_ter_of_tx HTK.out ht ha2
 refine wp_region_lit ?_
 refine zr (.pointer (some ⟨bp, 0, none⟩)) w rfl ?_
 simp only [Act.put, zA]
 refine zr (.pointer (some ⟨bp, 0, none⟩)) w (xo_nil _ rfl rfl) ?_
 simp only [Act.put, zA]
 refine zr (.pointer (some ⟨bp, 2, none⟩)) w (xo_fld0 2 bp 2 (by kernel_rfl) rfl rfl) ?_
 simp only [Act.put, zA]
 refine zr (.int .i64 (x.e : Int)) w (xo_load1 ⟨bp, 2, none⟩ _ (cells_at Hpbp.out 2 rfl) Tryd.underlying35 rfl rfl rfl) ?_
 simp only [Act.put, zA]
 refine zr (.bool false) w (xo_neqF .i64 ((x.e : Nat) : Int) 0 (by omega) rfl rfl rfl) ?_
 simp only [Act.put, zA]
 refine zr (.bool false) w rfl ?_
 simp only [Act.put, zA]
 refine zr (.pointer (some ⟨bp, 0, none⟩)) w rfl ?_
 simp only [Act.put, zA]
 refine zr (.pointer (some ⟨bp, 0, none⟩)) w (xo_nil _ rfl rfl) ?_
 simp only [Act.put, zA]
 refine zr (.pointer (some ⟨bp, 0, none⟩)) w (xo_fld0 0 bp 0 (by kernel_rfl) rfl rfl) ?_
 simp only [Act.put, zA]
 refine zr (.slice A n c) w (xo_load1 ⟨bp, 0, none⟩ _ (cells_at Hpbp.out 0 rfl) Tryd.underlying76 rfl rfl rfl) ?_
 simp only [Act.put, zA]
 refine zr (.pointer (some (gad A (0 * 3)))) w (xg_idx .i64 HTS.out.sg HCH.out.head Tryd.underlying76 (by kernel_rfl) rfl rfl rfl) ?_
 simp only [Act.put, zA]
 refine zr (.pointer (some (gad A ((0 * 3) + 1)))) w (xg_fld 1 HTS.out.sg HCH.out.head (by kernel_rfl) rfl rfl) ?_
 simp only [Act.put, zA]
 refine zr (.string (sB ((Qu.tokR x.st).tx))) w (xg_load1 (E := tkR) (i := 0) (j := 1) HTS.out.sg HCH.out.head rfl rfl Tryd.underlying9 rfl rfl rfl) ?_
 simp only [Act.put, zA]
 refine zr (.string (sB t)) w rfl ?_
 simp only [Act.put, zA]
 refine zr (.bool false) w (xs_neF ((Qu.tokR x.st).tx) t ha2 Tryd.underlying9 rfl rfl rfl) ?_
 simp only [Act.put, zA]
 refine zr (.bool false) w rfl ?_
 simp only [Act.put, zA]
 refine wpList_nil ?_
 go_upto_region 3 with fail
 refine wp_region_lit ?_
 refine zr (.pointer (some ⟨bp, 0, none⟩)) w rfl ?_
 simp only [Act.put, zA]
 refine zr (.pointer (some ⟨bp, 0, none⟩)) w rfl ?_
 simp only [Act.put, zA]
 refine zr (.pointer (some ⟨bp, 0, none⟩)) w (xo_nil _ rfl rfl) ?_
 simp only [Act.put, zA]
 refine zr (.pointer (some ⟨bp, 0, none⟩)) w (xo_fld0 0 bp 0 (by kernel_rfl) rfl rfl) ?_
 simp only [Act.put, zA]
 refine zr (.slice A n c) w (xo_load1 ⟨bp, 0, none⟩ _ (cells_at Hpbp.out 0 rfl) Tryd.underlying76 rfl rfl rfl) ?_
 simp only [Act.put, zA]
 obtain ⟨A9, hA9⟩ : ∃ a, (if c = 1 then A else A.map (·.add (1 * 3))) = a := ⟨_, rfl⟩
 have HA9 := zh hA9
 clear hA9
 refine zr (.slice A9 (n - 1) (c - 1)) w (HA9.out ▸ xo_drop .i64 A n c 1 3 (by omega) Tryd.underlying76 (by kernel_rfl) rfl rfl rfl) ?_
 simp only [Act.put, zA]
 refine zr (.pointer (some ⟨bp, 0, none⟩)) w (xo_nil _ rfl rfl) ?_
 simp only [Act.put, zA]
 refine zr (.pointer (some ⟨bp, 0, none⟩)) w (xo_fld0 0 bp 0 (by kernel_rfl) rfl rfl) ?_
 simp only [Act.put, zA]
 refine wpList_store1 bp 0 #[.slice A n c, .int .i64 (x.o : Int), .int .i64 (x.e : Int)] (.slice A9 (n - 1) (c - 1)) 79 (by kernel_rfl) Hpbp.out (xo_store1 bp 0 #[.slice A n c, .int .i64 (x.o : Int), .int .i64 (x.e : Int)] _ (.slice A9 (n - 1) (c - 1)) Hpbp.out rfl (by kernel_rfl) rfl rfl rfl rfl) ?_
 intro X1_0 h1 hfar hbel hsz
 have YHF : FarH bp bp w X1_0 := FarH.store HF.out (.inl rfl) hsz hfar
 have YHTS : TS X1_0 A n c ts := TS.far HTS.out Hpbp.out (by decide) hfar
 have hbr := hbel _ _ Gpbp.out B0.out
 clear B0
 have B0 := zh hbr
 clear hbr
 clear HF
 have HF := zh YHF
 clear YHF
 clear HTS
 have HTS := zh YHTS
 clear YHTS
 clear Hpbp
 have Hpbp : Hid (X1_0.heap[bp]? = some (.cells #[.slice A9 (n - 1) (c - 1), .int .i64 (x.o : Int), .int .i64 (x.e : Int)] 79 (0, 0))) := zh (h1)
 have HszX1_0 := zh hsz
 clear h1 hfar hbel hsz
 simp only [ptr, Act.put, zA]
 refine wpList_nil ?_
 go_upto_region 4 with fail
 refine wp_region_lit ?_
 refine zr (.bool true) X1_0 rfl ?_
 simp only [Act.put, zA]
 refine wpList_nil ?_
 have hsf : PX X1_0 bp s (Qu.advT s x) := ⟨_, _, _, _, Hpbp.out, HA9.out ▸ TS.drop HTS.out (by omega), HCH.out.tail hnt, Tkn.adv _, Qu.adv_ok HOK.out⟩
 have hff := farc_mk HF.out HVW.out B0.out
 go_wp2_with fail
 go_ret
 exact ⟨rfl, hsf, hff⟩
set_option maxRecDepth 100000 in
set_option maxHeartbeats 16000000 in
theorem raccept_no (s : List UInt8) (bp : Nat) (x : Qu.X) (A : Option Addr) (n c : Nat) (ts : List Qu.RT) (w : World) (hP : PR w bp s x A n c ts) (t : List UInt8) (ha : ¬ AccY t x) :
  Calls Tryd.prog 45 #[.pointer (some ⟨bp, 0, none⟩), .string (sB t)] w fun e w' => e = .returned (.bool false) ∧ PX w' bp s x ∧ FarC bp bp w w' := by
 obtain ⟨V, hV0, hV⟩ := base_world w
 have B0 := zh hV
 have HVW := zh hV
 clear hV
 have HF := zh (FarH.refl bp bp w)
 have HTS := zh hP.tt
 have HCH := zh hP.ch
 have HTK := zh hP.tk
 have HOK := zh hP.ok
 have hln := hP.tt.sg.len
 have hcp := hP.tt.sg.cap
 have htp := hP.tt.sg.top
 have hps := hP.ch.pos
 have Hpbp : Hid (w.heap[bp]? = some (.cells #[.slice A n c, .int .i64 (x.o : Int), .int .i64 (x.e : Int)] 79 (0, 0))) := zh (hP.row)
 have Gpbp : Hid (V.heap.size ≤ bp) := zh (by omega)
 have Lpbp : Hid (bp < w.heap.size) := zh (xp_lt Hpbp.out)
 have hbp0 := xp_lt hP.row
 clear hP
 go_enter Tryd.func45, Tryd.ntmps45
 go_upto_region 1 with fail
 by_cases he : x.e = 0
 ·have hx : ¬ (Qu.tokR x.st).tx = t := fun e => ha ⟨he, e⟩
  refine wp_region_lit ?_
  refine zr (.pointer (some ⟨bp, 0, none⟩)) w rfl ?_
  simp only [Act.put, zA]
  refine zr (.pointer (some ⟨bp, 0, none⟩)) w (xo_nil _ rfl rfl) ?_
  simp only [Act.put, zA]
  refine zr (.pointer (some ⟨bp, 2, none⟩)) w (xo_fld0 2 bp 2 (by kernel_rfl) rfl rfl) ?_
  simp only [Act.put, zA]
  refine zr (.int .i64 (x.e : Int)) w (xo_load1 ⟨bp, 2, none⟩ _ (cells_at Hpbp.out 2 rfl) Tryd.underlying35 rfl rfl rfl) ?_
  simp only [Act.put, zA]
  refine zr (.bool false) w (xo_neqF .i64 ((x.e : Nat) : Int) 0 (by omega) rfl rfl rfl) ?_
  simp only [Act.put, zA]
  refine zr (.bool false) w rfl ?_
  simp only [Act.put, zA]
  refine zr (.pointer (some ⟨bp, 0, none⟩)) w rfl ?_
  simp only [Act.put, zA]
  refine zr (.pointer (some ⟨bp, 0, none⟩)) w (xo_nil _ rfl rfl) ?_
  simp only [Act.put, zA]
  refine zr (.pointer (some ⟨bp, 0, none⟩)) w (xo_fld0 0 bp 0 (by kernel_rfl) rfl rfl) ?_
  simp only [Act.put, zA]
  refine zr (.slice A n c) w (xo_load1 ⟨bp, 0, none⟩ _ (cells_at Hpbp.out 0 rfl) Tryd.underlying76 rfl rfl rfl) ?_
  simp only [Act.put, zA]
  refine zr (.pointer (some (gad A (0 * 3)))) w (xg_idx .i64 HTS.out.sg HCH.out.head Tryd.underlying76 (by kernel_rfl) rfl rfl rfl) ?_
  simp only [Act.put, zA]
  refine zr (.pointer (some (gad A ((0 * 3) + 1)))) w (xg_fld 1 HTS.out.sg HCH.out.head (by kernel_rfl) rfl rfl) ?_
  simp only [Act.put, zA]
  refine zr (.string (sB ((Qu.tokR x.st).tx))) w (xg_load1 (E := tkR) (i := 0) (j := 1) HTS.out.sg HCH.out.head rfl rfl Tryd.underlying9 rfl rfl rfl) ?_
  simp only [Act.put, zA]
  refine zr (.string (sB t)) w rfl ?_
  simp only [Act.put, zA]
  refine zr (.bool true) w (xs_neT ((Qu.tokR x.st).tx) t hx Tryd.underlying9 rfl rfl rfl) ?_
  simp only [Act.put, zA]
  refine zr (.bool true) w rfl ?_
  simp only [Act.put, zA]
  refine wpList_nil ?_
  go_upto_region 2 with fail
  refine wp_region_lit ?_
  refine zr (.bool false) w rfl ?_
  simp only [Act.put, zA]
  refine wpList_nil ?_
  have hsf : PX w bp s _ := ⟨_, _, _, _, Hpbp.out, HTS.out, HCH.out, HTK.out, HOK.out⟩
  have hff := farc_mk HF.out HVW.out B0.out
  try clear e0
  go_wp2_with fail
  go_ret
  exact ⟨rfl, hsf, hff⟩
 ·refine wp_region_lit ?_
  refine zr (.pointer (some ⟨bp, 0, none⟩)) w rfl ?_
  simp only [Act.put, zA]
  refine zr (.pointer (some ⟨bp, 0, none⟩)) w (xo_nil _ rfl rfl) ?_
  simp only [Act.put, zA]
  refine zr (.pointer (some ⟨bp, 2, none⟩)) w (xo_fld0 2 bp 2 (by kernel_rfl) rfl rfl) ?_
  simp only [Act.put, zA]
  refine zr (.int .i64 (x.e : Int)) w (xo_load1 ⟨bp, 2, none⟩ _ (cells_at Hpbp.out 2 rfl) Tryd.underlying35 rfl rfl rfl) ?_
  simp only [Act.put, zA]
  refine zr (.bool true) w (xo_neqT .i64 ((x.e : Nat) : Int) 0 (by omega) rfl rfl rfl) ?_
  simp only [Act.put, zA]
  refine zr (.bool true) w rfl ?_
  simp only [Act.put, zA]
  refine zl ?_
  try simp only [Act.put, zA]
  refine zl ?_
  try simp only [Act.put, zA]
  refine zl ?_
  try simp only [Act.put, zA]
  refine zl ?_
  try simp only [Act.put, zA]
  refine zl ?_
  try simp only [Act.put, zA]
  refine zl ?_
  try simp only [Act.put, zA]
  refine zl ?_
  try simp only [Act.put, zA]
  refine zl ?_
  try simp only [Act.put, zA]
  refine zl ?_
  try simp only [Act.put, zA]
  refine zr (.bool true) w rfl ?_
  simp only [Act.put, zA]
  refine wpList_nil ?_
  go_upto_region 2 with fail
  refine wp_region_lit ?_
  refine zr (.bool false) w rfl ?_
  simp only [Act.put, zA]
  refine wpList_nil ?_
  have hsf : PX w bp s _ := ⟨_, _, _, _, Hpbp.out, HTS.out, HCH.out, HTK.out, HOK.out⟩
  have hff := farc_mk HF.out HVW.out B0.out
  try clear e0
  go_wp2_with fail
  go_ret
  exact ⟨rfl, hsf, hff⟩
set_option maxRecDepth 100000 in
set_option maxHeartbeats 16000000 in
theorem rexpect_as (s : List UInt8) (bp : Nat) (x : Qu.X) (A : Option Addr) (n c : Nat) (ts : List Qu.RT) (w : World) (hP : PR w bp s x A n c ts) (t : List UInt8) (ht : t ≠ []) :
  Calls Tryd.prog 50 #[.pointer (some ⟨bp, 0, none⟩), .string (sB t)] w fun e w' => e = .returned (.tuple #[]) ∧ PX w' bp s (Qu.expT s t x) ∧ FarC bp bp w w' := by
 obtain ⟨V, hV0, hV⟩ := base_world w
 have B0 := zh hV
 have HVW := zh hV
 clear hV
 have HF := zh (FarH.refl bp bp w)
 have HTS := zh hP.tt
 have HCH := zh hP.ch
 have HTK := zh hP.tk
 have HOK := zh hP.ok
 have hln := hP.tt.sg.len
 have hcp := hP.tt.sg.cap
 have htp := hP.tt.sg.top
 have hps := hP.ch.pos
 have Hpbp : Hid (w.heap[bp]? = some (.cells #[.slice A n c, .int .i64 (x.o : Int), .int .i64 (x.e : Int)] 79 (0, 0))) := zh (hP.row)
 have Gpbp : Hid (V.heap.size ≤ bp) := zh (by omega)
 have Lpbp : Hid (bp < w.heap.size) := zh (xp_lt Hpbp.out)
 have hbp0 := xp_lt hP.row
 clear hP
 go_enter Tryd.func50, Tryd.ntmps50
 go_upto_region 0 with fail
 by_cases ha : AccY t x
 ·refine wp_region_lit ?_
  refine zr (.pointer (some ⟨bp, 0, none⟩)) w rfl ?_
  simp only [Act.put, zA]
  refine zr (.string (sB t)) w rfl ?_
  simp only [Act.put, zA]
  refine wpList_call (by kernel_rfl) 45 Tryd.func45 (by kernel_rfl) (by kernel_rfl) _ _ #[.pointer (some ⟨bp, 0, none⟩), .string (sB t)] rfl (by kernel_rfl) ?_
  refine (raccept_yes s bp x A n c ts w ⟨Hpbp.out, HTS.out, HCH.out, HTK.out, HOK.out⟩ t ht ha).mono ?_
  rintro e W1_0 ⟨rfl, ⟨A_2, n_2, c_2, t_2, hpr⟩, hfc⟩
  have YHF : FarH bp bp w W1_0 := FarH.farC HF.out hfc
  have hb := farc_bel hV0 B0.out hfc
  have hbr := hb
  clear B0
  have B0 := zh hbr
  clear hbr
  clear hb
  clear HF
  have HF : Hid (FarH bp bp w W1_0) := zh YHF
  clear YHF
  have hln_2 := hpr.tt.sg.len
  have hcp_2 := hpr.tt.sg.cap
  have htp_2 := hpr.tt.sg.top
  have hps_2 := hpr.ch.pos
  try clear HTS
  have HTS := zh hpr.tt 
  try clear HCH
  have HCH := zh hpr.ch 
  try clear HTK
  have HTK := zh hpr.tk 
  try clear HOK
  have HOK := zh hpr.ok 
  clear Hpbp
  have Hpbp : Hid (W1_0.heap[bp]? = some (.cells #[.slice A_2 n_2 c_2, .int .i64 ((Qu.advT s x).o : Int), .int .i64 ((Qu.advT s x).e : Int)] 79 (0, 0))) := zh (hpr.row)
  clear hfc 
  refine ⟨_, rfl, ?_⟩
  simp only [Act.put, zA]
  refine zr (.bool false) W1_0 rfl ?_
  simp only [Act.put, zA]
  refine wpList_nil ?_
  have e0 : Qu.expT s t x = Qu.advT s x := by unfold Qu.expT; rw [if_pos ha]
  have hsf : PX W1_0 bp s (Qu.expT s t x) := by rw [e0]; exact ⟨_, _, _, _, Hpbp.out, HTS.out, HCH.out, HTK.out, HOK.out⟩
  have hff := farc_mk HF.out HVW.out B0.out
  try clear e0
  go_wp2_with fail
  go_end0
  exact ⟨rfl, hsf, hff⟩
 ·refine wp_region_lit ?_
  refine zr (.pointer (some ⟨bp, 0, none⟩)) w rfl ?_
  simp only [Act.put, zA]
  refine zr (.string (sB t)) w rfl ?_
  simp only [Act.put, zA]
  refine wpList_call (by kernel_rfl) 45 Tryd.func45 (by kernel_rfl) (by kernel_rfl) _ _ #[.pointer (some ⟨bp, 0, none⟩), .string (sB t)] rfl (by kernel_rfl) ?_
  refine (raccept_no s bp x A n c ts w ⟨Hpbp.out, HTS.out, HCH.out, HTK.out, HOK.out⟩ t ha).mono ?_
  rintro e W1_0 ⟨rfl, ⟨A_3, n_3, c_3, t_3, hpr⟩, hfc⟩
  have YHF : FarH bp bp w W1_0 := FarH.farC HF.out hfc
  have hb := farc_bel hV0 B0.out hfc
  have hbr := hb
  clear B0
  have B0 := zh hbr
  clear hbr
  clear hb
  clear HF
  have HF : Hid (FarH bp bp w W1_0) := zh YHF
  clear YHF
  have hln_3 := hpr.tt.sg.len
  have hcp_3 := hpr.tt.sg.cap
  have htp_3 := hpr.tt.sg.top
  have hps_3 := hpr.ch.pos
  try clear HTS
  have HTS := zh hpr.tt 
  try clear HCH
  have HCH := zh hpr.ch 
  try clear HTK
  have HTK := zh hpr.tk 
  try clear HOK
  have HOK := zh hpr.ok 
  clear Hpbp
  have Hpbp : Hid (W1_0.heap[bp]? = some (.cells #[.slice A_3 n_3 c_3, .int .i64 (x.o : Int), .int .i64 (x.e : Int)] 79 (0, 0))) := zh (hpr.row)
  clear hfc 
  refine ⟨_, rfl, ?_⟩
  simp only [Act.put, zA]
  refine zr (.bool true) W1_0 rfl ?_
  simp only [Act.put, zA]
  refine wpList_nil ?_
  go_upto_region 1 with fail
  refine wp_region_lit ?_
  refine zr (.pointer (some ⟨bp, 0, none⟩)) W1_0 rfl ?_
  simp only [Act.put, zA]
  refine wpList_call (by kernel_rfl) 46 Tryd.func46 (by kernel_rfl) (by kernel_rfl) _ _ #[.pointer (some ⟨bp, 0, none⟩)] rfl (by kernel_rfl) ?_
  refine (unexp_as s bp x A_3 n_3 c_3 t_3 W1_0 ⟨Hpbp.out, HTS.out, HCH.out, HTK.out, HOK.out⟩).mono ?_
  rintro e W1_1 ⟨rfl, ⟨A_4, n_4, c_4, t_4, hpr⟩, hfc⟩
  have YHF : FarH bp bp w W1_1 := FarH.farC HF.out hfc
  have hb := farc_bel hV0 B0.out hfc
  have hbr := hb
  clear B0
  have B0 := zh hbr
  clear hbr
  clear hb
  clear HF
  have HF : Hid (FarH bp bp w W1_1) := zh YHF
  clear YHF
  have hln_4 := hpr.tt.sg.len
  have hcp_4 := hpr.tt.sg.cap
  have htp_4 := hpr.tt.sg.top
  have hps_4 := hpr.ch.pos
  try clear HTS
  have HTS := zh hpr.tt 
  try clear HCH
  have HCH := zh hpr.ch 
  try clear HTK
  have HTK := zh hpr.tk 
  try clear HOK
  have HOK := zh hpr.ok 
  clear Hpbp
  have Hpbp : Hid (W1_1.heap[bp]? = some (.cells #[.slice A_4 n_4 c_4, .int .i64 ((Qu.unT x).o : Int), .int .i64 ((Qu.unT x).e : Int)] 79 (0, 0))) := zh (hpr.row)
  clear hfc 
  refine ⟨_, rfl, ?_⟩
  simp only [Act.put, zA]
  refine wpList_nil ?_
  have e0 : Qu.expT s t x = Qu.unT x := by unfold Qu.expT; rw [if_neg ha]
  have hsf : PX W1_1 bp s (Qu.expT s t x) := by rw [e0]; exact ⟨_, _, _, _, Hpbp.out, HTS.out, HCH.out, HTK.out, HOK.out⟩
  have hff := farc_mk HF.out HVW.out B0.out
  try clear e0
  go_wp2_with fail
  go_end0
  exact ⟨rfl, hsf, hff⟩
end Go.Proofs.YtlicfidcfhbmpaaDoor

