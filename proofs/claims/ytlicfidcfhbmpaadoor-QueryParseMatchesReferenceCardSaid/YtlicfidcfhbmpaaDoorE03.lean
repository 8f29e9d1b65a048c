/- Several texts in one: Qb, Qc, Qg, Qk, Qt, Qu, Qx, Qz, Ra, Rc, Ya, Yb, Yc. -/
import Derived.RangeFuncCalls
import Derived.Test.YtlicfidcfhbmpaaDoorE02
import Derived.Deep.Cut
import Derived.Deep.CutRange
import Derived.Deep.RegionWith
import Derived.TacticsInMore
import Derived.LoopNIn
import Derived.LoopIn
import Derived.RangeFuncNested
import Derived.RangeFuncBound
import Derived.RangeFuncLeaves
import Derived.RangeFuncBox
import Derived.Shelf.RegionOpen
import Derived.Laws.EntriesVeiled
import Derived.Sort.CutIn
import Derived.Laws.BytesArg
import Derived.Laws.Strings
set_option linter.unusedVariables false
set_option linter.unusedSimpArgs false
set_option linter.unusedSectionVars false
namespace Go.Proofs.YtlicfidcfhbmpaaDoor.K
set_option maxRecDepth 8000
open Go.RowKit
/-- a step of an iterator: nothing below N changes, no cells change -/
structure Abide (N : Nat) (A B : World) : Prop where
 below : Below N A B
 cells : ∀ (b : Nat) (o : Obj), A.heap[b]? = some o → o.isCells = true → B.heap[b]? = some o
theorem Abide.refl (N : Nat) (A : World) : Abide N A A := ⟨Below.refl _ _, fun _ _ h _ => h⟩
theorem Abide.trans {N : Nat} {A B C : World} (h : Abide N A B) (k : Abide N B C) : Abide N A C := ⟨h.below.trans k.below, fun b o ho hc => k.cells b o (h.cells b o ho hc) hc⟩
theorem Abide.mono {N M : Nat} {A B : World} (h : Abide N A B) (hM : M ≤ N) : Abide M A B := ⟨h.below.mono hM, h.cells⟩
theorem Abide.of_below {N : Nat} {A B : World} (h : Below A.heap.size A B) (hN : N ≤ A.heap.size) : Abide N A B := ⟨h.mono hN, fun _ _ ho _ => heap_keep ho h⟩
theorem Abide.cell {N : Nat} {A B : World} (h : Abide N A B) {p : Addr} {v : Value} (hc : A.cell? p = some v) : B.cell? p = some v := by
 have hlt := World.block_lt_of_cell? _ _ hc
 have ho := Array.getElem?_eq_getElem hlt
 have hcell : (A.heap[p.block]'hlt).isCells = true := by
  have := hc
  unfold World.cell? at this
  rw [ho] at this
  cases hh : A.heap[p.block]'hlt <;> rw [hh] at this <;> first | rfl | (simp at this)
 exact (World.cell?_of_block ((h.cells _ _ ho hcell).trans ho.symm)).trans hc
/-- what a round keeps for the iterator: whatever lies at or beyond N, but for cells -/
structure KeepI (N : Nat) (A B : World) : Prop where
 size : A.heap.size ≤ B.heap.size
 same : ∀ (b : Nat) (o : Obj), N ≤ b → A.heap[b]? = some o → Obj.isCells o = false → B.heap[b]? = some o
theorem KeepI.refl (N : Nat) (A : World) : KeepI N A A := ⟨Nat.le_refl _, fun _ _ _ h _ => h⟩
theorem KeepI.trans {N : Nat} {A B C : World} (h : KeepI N A B) (k : KeepI N B C) : KeepI N A C := ⟨Nat.le_trans h.size k.size, fun b o hb ho hd => k.same b o hb (h.same b o hb ho hd) hd⟩
theorem KeepI.mono {N M : Nat} {A B : World} (h : KeepI N A B) (hM : N ≤ M) : KeepI M A B := ⟨h.size, fun b o hb => h.same b o (by omega)⟩
theorem KeepI.of_below {N : Nat} {A B : World} (h : Below A.heap.size A B) : KeepI N A B := ⟨h.size, fun _ _ _ ho _ => heap_keep ho h⟩
theorem KeepI.setCell {N : Nat} {A : World} (p : Addr) (v : Value) (hp : p.block < N) : KeepI N A (A.setCell p v) :=
 ⟨by simp [World.setCell], fun b o hb ho _ => (Below.heap_setCell A p v b (by omega)).trans ho⟩
theorem KeepI.setRow {N x : Nat} {A : World} (cs : Array Value) (hx : x < N) : KeepI N A (A.setRow x cs) :=
 ⟨by simp [World.setRow], fun b o hb ho _ => by
  have : x ≠ b := by omega
  simp [World.setRow, Array.getElem?_modify, this]
  exact ho⟩
theorem KeepI.cell {N : Nat} {A B : World} (h : KeepI N A B) {p : Addr} {v : Value} (hp : N ≤ p.block) (hc : A.cell? p = some v) (hd : ∀ o, A.heap[p.block]? = some o → Obj.isCells o = false) : B.cell? p = some v := by
 have hlt := World.block_lt_of_cell? _ _ hc
 have ho := Array.getElem?_eq_getElem hlt
 exact (World.cell?_of_block ((h.same _ _ hp ho (hd _ ho)).trans ho.symm)).trans hc
/-- nothing but cells changes -/
structure Kin (A B : World) : Prop where
 size : A.heap.size ≤ B.heap.size
 same : ∀ (b : Nat) (o : Obj), A.heap[b]? = some o → o.isCells = false → B.heap[b]? = some o
theorem Kin.refl (A : World) : Kin A A := ⟨Nat.le_refl _, fun _ _ h _ => h⟩
theorem Kin.trans {A B C : World} (h : Kin A B) (k : Kin B C) : Kin A C := ⟨Nat.le_trans h.size k.size, fun b o ho hd => k.same b o (h.same b o ho hd) hd⟩
theorem Kin.of_below {A B : World} (h : Below A.heap.size A B) : Kin A B := ⟨h.size, fun _ _ ho _ => heap_keep ho h⟩
theorem Kin.keep {A B : World} (h : Kin A B) (N : Nat) : KeepI N A B := ⟨h.size, fun b o _ ho hd => h.same b o ho hd⟩
theorem Kin.far {A B : World} {g : Nat} {o : Obj} (hg : A.heap[g]? = some o) (hc : o.isCells = true) (hs : A.heap.size ≤ B.heap.size) (hfar : ∀ k o, k ≠ g → A.heap[k]? = some o → B.heap[k]? = some o) : Kin A B :=
 ⟨hs, fun b q hq hd => hfar b q (fun e => by subst e; rw [hg] at hq; injection hq with hq; subst hq; rw [hc] at hd; cases hd) hq⟩
theorem Kin.grown {A B : World} {base : Nat} {e : TypeId} {size n : Nat} {v : Value} {cs : List Value} (h : A.ownsRow base e size v n cs) (hg : A.grownBy B v.ownBlock) : Kin A B :=
 ⟨hg.size, fun b q hq hd => (hg.block b (Array.getElem?_eq_some_iff.1 hq).1 (fun he => by
  rcases h.2 with ⟨rfl, _⟩ | ⟨g, cap, cur, rfl, hb, hgg, _⟩
  ·cases he
  ·simp only [Value.ownBlock] at he
   injection he with he
   subst he
   rw [hgg] at hq
   injection hq with hq
   subst hq
   cases hd)).trans hq⟩
section
variable {P : Program} {Q : Exit → Act → World → Prop} {ops : Array Oper} {w : World} {n : Nat} {ty : TypeId} {x y : Operand}
end
theorem hOp_callA {P : Program} {o : Oper} {a : Act} {w : World} {K : Value → World → Prop} {fn : Func} (f : FuncId) (hf : P.funcs[f]? = some fn) (hname : (fn.name == "runtime.NumGoroutine") = false) (hb : fn.body.isNone = false) (x : Tmp) (xs : Array Operand) (lb : Array Value) (ts : Array TypeId) (ho : o.op = .call { callee := .value (.tmp x), args := xs, argTypes := ts })
  (hx : a.eval (.tmp x) = .func (.func f) #[] lb) (args : Array Value) (hargs : xs.map a.eval = args) (h : Calls P f (args ++ lb) w fun e w' => ∃ v, e = .returned v ∧ K v w') : hOp P o K a w := by
 unfold hOp execOp
 simp only [ho]
 have e : (do let d ← resolve a.eval { callee := .value (.tmp x), args := xs, argTypes := ts } o.type; invoke d.target d.args : Sem Next).run P w = .ok (.enter f (args ++ lb)) w := by
  have h1 : fn.name ≠ "runtime.NumGoroutine" := by simpa using hname
  have h2 : fn.body ≠ none := by
   intro e
   rw [e] at hb
   cases hb
  have hx' : a.tmps[x]?.getD undef = .func (.func f) #[] lb := by simpa [Act.eval] using hx
  subst hargs
  simp [resolve, Deferred.ofValue, invoke, go_sem, hx', callFunc, hf, h1, h2]
 rw [e]
 exact h
section
variable {P : Program}
end
section
variable {p : Nat} {F : Nat → Value → Prop} {w0 W : World} {T : Bool → World → Prop} {m m' : Nat → Bool} {vs : Nat → Value}
end
end Go.Proofs.YtlicfidcfhbmpaaDoor.K

namespace Go.Proofs.YtlicfidcfhbmpaaDoor
set_option maxRecDepth 8000
open Go.RowKit Go.Proofs.YtlicfidcfhbmpaaDoor.K
/-- a reading -/
structure Rd where
 who : Int
 when_ : Int
 kind : Int
 value : Int
/-- a slice's head -/
structure Hd where
 A : Option Addr
 n : Nat
 c : Nat
/-- an operation on a stream -/
structure Opn where
 b0 : Nat
 b1 : Nat
 b2 : Nat
 back : Bool
def rdC (r : Rd) : List Value := [.int .i64 r.who, .int .i64 r.when_, .int .i64 r.kind, .int .i64 r.value]
def boC (b : Bool) : List Value := [.bool b]
def wdC (n : Nat) : List Value := [.int .u64 (n : Int)]
def byC (n : Nat) : List Value := [.int .u8 (n : Int)]
def hdC (h : Hd) : List Value := [.slice h.A h.n h.c]
def opC (o : Opn) : List Value := [.int .u8 (o.b0 : Int), .int .u8 (o.b1 : Int), .int .u8 (o.b2 : Int), .bool o.back]
instance : Enc rdC 4 := ⟨fun _ => rfl, fun x u hu => by simp only [rdC, List.mem_cons, List.not_mem_nil, or_false] at hu; rcases hu with rfl | rfl | rfl | rfl <;> rfl, by omega⟩
instance : Enc boC 1 := ⟨fun _ => rfl, fun x u hu => by simp only [boC, List.mem_cons, List.not_mem_nil, or_false] at hu; subst hu; rfl, by omega⟩
instance : Enc wdC 1 := ⟨fun _ => rfl, fun x u hu => by simp only [wdC, List.mem_cons, List.not_mem_nil, or_false] at hu; subst hu; rfl, by omega⟩
instance : Enc byC 1 := ⟨fun _ => rfl, fun x u hu => by simp only [byC, List.mem_cons, List.not_mem_nil, or_false] at hu; subst hu; rfl, by omega⟩
instance : Enc hdC 1 := ⟨fun _ => rfl, fun x u hu => by simp only [hdC, List.mem_cons, List.not_mem_nil, or_false] at hu; subst hu; rfl, by omega⟩
instance : Enc opC 4 := ⟨fun _ => rfl, fun x u hu => by simp only [opC, List.mem_cons, List.not_mem_nil, or_false] at hu; rcases hu with rfl | rfl | rfl | rfl <;> rfl, by omega⟩
/-- cells of a list -/
abbrev fl {α : Type} (E : α → List Value) (xs : List α) : List Value := xs.flatMap E
def fldI (r : Rd) : Nat → Int
 | 0 => r.who
 | 1 => r.when_
 | 2 => r.kind
 | _ => r.value
def widN : Nat → Nat
 | 0 => 4
 | 2 => 4
 | _ => 8
/-- field j lies within its width -/
def fokB (r : Rd) (j : Nat) : Bool := decide (0 ≤ fldI r j ∧ fldI r j < ((2 ^ widN j : Nat) : Int))
def vR (r : Rd) : Bool := fokB r 0 && fokB r 1 && fokB r 2 && fokB r 3
theorem vR_iff {r : Rd} : vR r = true ↔ (0 ≤ r.who ∧ r.who < 16) ∧ (0 ≤ r.when_ ∧ r.when_ < 256) ∧ (0 ≤ r.kind ∧ r.kind < 16) ∧ (0 ≤ r.value ∧ r.value < 256) := by
 simp only [vR, fokB, fldI, widN, Bool.and_eq_true, decide_eq_true_eq]
 constructor
 ·rintro ⟨⟨⟨h0, h1⟩, h2⟩, h3⟩
  exact ⟨⟨h0.1, by have := h0.2; omega⟩, ⟨h1.1, by have := h1.2; omega⟩, ⟨h2.1, by have := h2.2; omega⟩, h3.1, by have := h3.2; omega⟩
 ·rintro ⟨h0, h1, h2, h3⟩
  exact ⟨⟨⟨⟨h0.1, by have := h0.2; omega⟩, h1.1, by have := h1.2; omega⟩, h2.1, by have := h2.2; omega⟩, h3.1, by have := h3.2; omega⟩
/-- the reading of three bytes -/
def decR (a b c : Nat) : Rd := ⟨((a % 16 : Nat) : Int), (b : Int), ((a / 16 : Nat) : Int), (c : Int)⟩
theorem vR_dec {a b c : Nat} (ha : a < 256) (hb : b < 256) (hc : c < 256) : vR (decR a b c) = true := by
 rw [vR_iff]
 simp only [decR]
 omega
/-- a stream: readings, and which are gone -/
def opS (most : Nat) (s : List Rd × List Bool) (o : Opn) : List Rd × List Bool :=
 if o.back then (if 0 < s.1.length then (if s.2.getD (o.b0 % s.1.length) false then s else (s.1, s.2.set (o.b0 % s.1.length) true)) else s)
 else if s.1.length < most then (s.1 ++ [decR o.b0 o.b1 o.b2], s.2 ++ [false]) else s
/-- what holds of such a stream -/
structure StO (most : Nat) (rs : List Rd) (gs : List Bool) : Prop where
 same : gs.length = rs.length
 most : rs.length ≤ most
 ok : ∀ r ∈ rs, vR r = true
theorem StO.op {most : Nat} {s : List Rd × List Bool} (h : StO most s.1 s.2) (o : Opn) (h0 : o.b0 < 256) (h1 : o.b1 < 256) (h2 : o.b2 < 256) : StO most (opS most s o).1 (opS most s o).2 := by
 unfold opS
 split
 ·split
  ·split
   ·exact h
   ·exact ⟨by simp [h.same], h.most, h.ok⟩
  ·exact h
 ·split
  ·next hl =>
   refine ⟨by simp [h.same], by simp; omega, fun r hr => ?_⟩
   rcases List.mem_append.1 hr with hr | hr
   ·exact h.ok r hr
   ·rw [List.mem_singleton] at hr
    subst hr
    exact vR_dec h0 h1 h2
  ·exact h
theorem StO.nil (most : Nat) : StO most [] [] := ⟨rfl, Nat.zero_le _, fun r hr => by cases hr⟩
/-- column j of a stream in 2 ^ log rows -/
def colN (rs : List Rd) (gs : List Bool) (N j : Nat) : List Nat :=
 if j < 4 then rs.map (fun r => (fldI r j).toNat) ++ List.replicate (N - rs.length) 0 else gs.map (fun g => if g then 0 else 1) ++ List.replicate (N - gs.length) 0
end Go.Proofs.YtlicfidcfhbmpaaDoor

namespace Go.Proofs.YtlicfidcfhbmpaaDoor
set_option maxRecDepth 8000
open Go.RowKit Go.Proofs.YtlicfidcfhbmpaaDoor.K
/-- blocks of the call's own that hold columns -/
structure RowsU (w : World) (t : TypeId) (base : Nat) (bs : List Nat) (xss : List (List Nat)) : Prop where
 len : bs.length = xss.length
 ge : ∀ b ∈ bs, base ≤ b
 nd : bs.Nodup
 row : ∀ (i b : Nat) (xs : List Nat), bs[i]? = some b → xss[i]? = some xs → RowG wdC w b t xs
section
variable {w w' : World} {t : TypeId} {base : Nat} {bs : List Nat} {xss : List (List Nat)}
theorem RowsU.keep (h : RowsU w t base bs xss) (hb : Below w.heap.size w w') : RowsU w' t base bs xss := ⟨h.len, h.ge, h.nd, fun i b xs hi hx => (h.row i b xs hi hx).keep hb⟩
theorem RowsU.far (h : RowsU w t base bs xss) {g : Nat} (hg : g ∉ bs) (hfar : ∀ k o, k ≠ g → w.heap[k]? = some o → w'.heap[k]? = some o) : RowsU w' t base bs xss :=
 ⟨h.len, h.ge, h.nd, fun i b xs hi hx => hfar b _ (fun e => hg (by rw [← e]; exact List.mem_of_getElem? hi)) (h.row i b xs hi hx)⟩
theorem RowsU.lt (h : RowsU w t base bs xss) : ∀ b ∈ bs, b < w.heap.size := fun b hb => by
 obtain ⟨i, hi, rfl⟩ := List.mem_iff_getElem.1 hb
 exact (h.row i _ _ (List.getElem?_eq_getElem hi) (List.getElem?_eq_getElem (by rw [← h.len]; exact hi))).lt
theorem RowsU.push (h : RowsU w t base bs xss) {b : Nat} {xs : List Nat} (hr : RowG wdC w b t xs) (hge : base ≤ b) (hn : b ∉ bs) : RowsU w t base (bs ++ [b]) (xss ++ [xs]) :=
 ⟨by simp [h.len], fun c hc => by rcases List.mem_append.1 hc with hc | hc; exact h.ge c hc; rw [List.mem_singleton] at hc; subst hc; exact hge,
  List.nodup_append.2 ⟨h.nd, by simp, fun a ha c hc e => by rw [List.mem_singleton] at hc; subst hc e; exact hn ha⟩, fun i c ys hi hx => by
  rw [List.getElem?_append] at hi hx
  rw [h.len] at hi
  split at hi
  ·next hlt => rw [if_pos hlt] at hx; exact h.row i c ys hi hx
  ·next hlt =>
   rw [if_neg hlt] at hx
   have h0 : i - xss.length = 0 := by have := (List.getElem?_eq_some_iff.1 hi).1; simp at this; omega
   rw [h0] at hi hx
   simp at hi hx
   subst hi hx
   exact hr⟩
theorem RowsU.nil : RowsU w t base [] [] := ⟨rfl, fun b hb => (by cases hb), List.nodup_nil, fun i b xs h => (by simp at h)⟩
theorem RowsU.store (h : RowsU w t base bs xss) {c b : Nat} {ys : List Nat} (hc : bs[c]? = some b) (hr : RowG wdC w' b t ys) (hfar : ∀ k o, k ≠ b → w.heap[k]? = some o → w'.heap[k]? = some o) : RowsU w' t base bs (xss.set c ys) :=
 ⟨by simp [h.len], h.ge, h.nd, fun i d xs hi hx => by
  by_cases e : i = c
  ·subst e
   rw [hc] at hi
   injection hi with hi
   subst hi
   rw [List.getElem?_set_self (by rw [← h.len]; exact (List.getElem?_eq_some_iff.1 hc).1)] at hx
   injection hx with hx
   subst hx
   exact hr
  ·rw [List.getElem?_set_ne (Ne.symm e)] at hx
   refine hfar d _ (fun e2 => e ?_) (h.row i d xs hi hx)
   subst e2
   obtain ⟨h1, h2⟩ := List.getElem?_eq_some_iff.1 hi
   obtain ⟨h3, h4⟩ := List.getElem?_eq_some_iff.1 hc
   exact (List.getElem_inj h.nd).1 (h2.trans h4.symm)⟩
end
/-- columns that are read -/
structure Cols (w : World) (A : Option Addr) (n c : Nat) (hs : List Hd) (xss : List (List Nat)) : Prop where
 head : Sg hdC 1 w A n c hs
 len : hs.length = xss.length
 row : ∀ (i : Nat) (h : Hd) (xs : List Nat), hs[i]? = some h → xss[i]? = some xs → Sg wdC 1 w h.A h.n h.c xs
theorem Cols.keep {w w' : World} {A : Option Addr} {n c : Nat} {hs : List Hd} {xss : List (List Nat)} (h : Cols w A n c hs xss) (hb : Below w.heap.size w w') : Cols w' A n c hs xss :=
 ⟨h.head.keep hb, h.len, fun i d xs hi hx => (h.row i d xs hi hx).keep hb⟩
theorem fl_append {α : Type} (E : α → List Value) (xs ys : List α) : fl E (xs ++ ys) = fl E xs ++ fl E ys := List.flatMap_append ..
theorem own_rowkeep {w w' : World} {base b : Nat} {e u : TypeId} {size n : Nat} {v : Value} {cs : List Value} {ds : Array Value} (h : w.ownsRow base e size v n cs) (hg : w.grownBy w' v.ownBlock) (hb : w.heap[b]? = some (.cells ds u (0, 0))) (hne : u ≠ e) : w'.heap[b]? = some (.cells ds u (0, 0)) :=
 (hg.block b (xp_lt hb) (fun he => by
  rcases h.2 with ⟨rfl, _⟩ | ⟨g, cap, cur, rfl, hbs, hgg, _⟩
  ·cases he
  ·simp only [Value.ownBlock] at he
   injection he with he
   subst he
   rw [hgg] at hb
   injection hb with hb
   injection hb with _ hb2
   exact hne hb2.symm)).trans hb
theorem own_farT {w w' : World} {base b : Nat} {e u : TypeId} {size n : Nat} {v : Value} {cs : List Value} {ds : Array Value} (h : w.ownsRow base e size v n cs) (hb : w.heap[b]? = some (.cells ds u (0, 0))) (hne : u ≠ e) (hfar : ∀ k o, k ≠ b → w.heap[k]? = some o → w'.heap[k]? = some o) : w'.ownsRow base e size v n cs := by
 refine ⟨h.1, ?_⟩
 rcases h.2 with hn | ⟨g, cap, cur, rfl, hbs, hgg, rest⟩
 ·exact .inl hn
 ·exact .inr ⟨g, cap, cur, rfl, hbs, hfar g _ (fun e2 => by
   subst e2
   rw [hgg] at hb
   injection hb with hb
   injection hb with _ hb2
   exact hne hb2.symm) hgg, rest⟩
end Go.Proofs.YtlicfidcfhbmpaaDoor

namespace Go.Proofs.YtlicfidcfhbmpaaDoor.K
set_option maxRecDepth 8000
open Go.RowKit
/-- orders: taken first (it only looks), alone, or one of two -/
inductive OT where
 | nil : OT
 | q (i : Nat) (t : OT) : OT
 | one (i : Nat) (t : OT) : OT
 | fork (i : Nat) (t : OT) (j : Nat) (u : OT) : OT
def OT.len : OT → Nat
 | .nil => 0
 | .q _ t => t.len + 1
 | .one _ t => t.len + 1
 | .fork _ t _ _ => t.len + 1
section
variable {P : Program} {ops : Array Oper} {S : World → Prop} {Q : Exit → Act → World → Prop}
def wpOT (P : Program) (ops : Array Oper) (S : World → Prop) (Q : Exit → Act → World → Prop) : OT → Act → World → Prop
 | .nil, a, w => Q .normal a w
 | .q i t, a, w => ∃ o, ops[i]? = some o ∧ ∃ v, YieldsIf P ops S o v a ∧ wpOT P ops S Q t (a.put o.dst v) w
 | .one i t, a, w => ∃ o, ops[i]? = some o ∧ Region.wanted o (yielded ops a.tmps) = true ∧ hOp P o (fun v w' => S w' ∧ wpOT P ops S Q t (a.put o.dst v) w') a w
 | .fork i t j u, a, w => (∃ o, ops[i]? = some o ∧ Region.wanted o (yielded ops a.tmps) = true ∧ hOp P o (fun v w' => S w' ∧ wpOT P ops S Q t (a.put o.dst v) w') a w) ∧
   (∃ o, ops[j]? = some o ∧ Region.wanted o (yielded ops a.tmps) = true ∧ hOp P o (fun v w' => S w' ∧ wpOT P ops S Q u (a.put o.dst v) w') a w)
def okT (ops : Array Oper) : OT → Array Bool → Bool
 | .nil, m => (Region.ready .any ops m).isEmpty
 | .q i t, m => Region.free .any ops m i && (Region.ready .any ops m).contains i && okT ops t (m.setIfInBounds i true)
 | .one i t, m => (Region.ready .any ops m == [i]) && okT ops t (m.setIfInBounds i true)
 | .fork i t j u, m => (Region.ready .any ops m == [i, j]) && (t.len == u.len) && okT ops t (m.setIfInBounds i true) && okT ops u (m.setIfInBounds j true)
theorem wpAnyH_of_wpOT (hs : Region.noSelect ops = true) (hQ : ∀ c a (dt : Option Tmp) v w, Q (.panic c) (Act.put a dt v) w → Q (.panic c) a w) : ∀ (t : OT) (m : Array Bool) (a : Act) (w : World), okT ops t m = true → S w → wpOT P ops S Q t a w → wpAnyH P .any ops Q S t.len m a w
 | .nil, m, a, w, ho, hS, h => wpAnyH_done (by unfold okT at ho; simpa using ho) h _
 | .q i t, m, a, w, ho, hS, h => by
  unfold okT at ho
  rw [Bool.and_eq_true, Bool.and_eq_true] at ho
  obtain ⟨o, hi, v, hy, hk⟩ := h
  exact wpAnyH_take hi hs ho.1.1 ho.1.2 (fun c a w h => hQ c a _ _ w h) hy hS (wpAnyH_of_wpOT hs hQ t _ _ w ho.2 hS hk)
 | .one i t, m, a, w, ho, hS, h => by
  unfold okT at ho
  rw [Bool.and_eq_true] at ho
  obtain ⟨o, hi, hw, hk⟩ := h
  refine wpAnyH_all (rs := [i]) (by simpa using ho.1) (by simp) ?_
  intro j hj
  obtain rfl : j = i := by simpa using hj
  exact wpOp_of_hOp hi hw (hOp_mono (fun v w' hk => ⟨hk.1, wpAnyH_of_wpOT hs hQ t _ _ w' ho.2 hk.1 hk.2⟩) hk)
 | .fork i t j u, m, a, w, ho, hS, h => by
  unfold okT at ho
  rw [Bool.and_eq_true, Bool.and_eq_true, Bool.and_eq_true] at ho
  obtain ⟨⟨⟨h1, h2⟩, h3⟩, h4⟩ := ho
  have h2 : t.len = u.len := by simpa using h2
  obtain ⟨⟨o, hi, hw, hk⟩, ⟨o2, hi2, hw2, hk2⟩⟩ := h
  refine wpAnyH_all (rs := [i, j]) (by simpa using h1) (by simp) ?_
  intro q hq
  rcases List.mem_cons.1 hq with rfl | hq
  ·exact wpOp_of_hOp hi hw (hOp_mono (fun v w' hk => ⟨hk.1, wpAnyH_of_wpOT hs hQ t _ _ w' h3 hk.1 hk.2⟩) hk)
  ·obtain rfl : q = j := by simpa using hq
   exact wpOp_of_hOp hi2 hw2 (hOp_mono (fun v w' hk => ⟨hk.1, by have := wpAnyH_of_wpOT hs hQ u _ _ w' h4 hk.1 hk.2; rw [← h2] at this; exact this⟩) hk2)
theorem wp_ordT (S : World → Prop) (t : OT) {id : Nat} {a : Act} {w : World} {l : List Oper} (hm : P.follows .mixedOrders = true) (hs : Region.noSelect l.toArray = true) (hQ : ∀ c a (dt : Option Tmp) v w, Q (.panic c) (Act.put a dt v) w → Q (.panic c) a w)
  (hn : t.len = l.length) (ho : okT l.toArray t (Array.replicate l.length false) = true) (hS : S w.drew) (h : wpOT P l.toArray S Q t a w.drew) : (Code.region id l.toArray true).wp P Q a w := by
 refine wp_region_held (S := S) hm ?_
 have := wpAnyH_of_wpOT hs hQ t _ a w.drew ho hS h
 rw [hn] at this
 simpa using this
theorem wpOT_nil {a : Act} {w : World} (h : Q .normal a w) : wpOT P ops S Q .nil a w := h
theorem wpOT_q {i : Nat} {t : OT} {o : Oper} {l : List Oper} {a : Act} {w : World} (v : Value) (hi : l[i]? = some o) (hw : Region.wanted o (yielded l.toArray a.tmps) = true) (hr : ∀ w', S w' → (execOp a.eval o).run P w' = .ok (.value v) w') (h : wpOT P l.toArray S Q t (a.put o.dst v) w) : wpOT P l.toArray S Q (.q i t) a w :=
 ⟨o, by simpa using hi, v, .inl ⟨hw, hr⟩, h⟩
theorem wpOT_one {i : Nat} {t : OT} {o : Oper} {l : List Oper} {a : Act} {w : World} (hi : l[i]? = some o) (hw : Region.wanted o (yielded l.toArray a.tmps) = true) (h : hOp P o (fun v w' => S w' ∧ wpOT P l.toArray S Q t (a.put o.dst v) w') a w) : wpOT P l.toArray S Q (.one i t) a w :=
 ⟨o, by simpa using hi, hw, h⟩
theorem wpOT_fork {i j : Nat} {t u : OT} {a : Act} {w : World} (h1 : wpOT P ops S Q (.one i t) a w) (h2 : wpOT P ops S Q (.one j u) a w) : wpOT P ops S Q (.fork i t j u) a w := ⟨h1, h2⟩
end
section
variable {P : Program}
theorem hOp_val {o : Oper} {a : Act} {w : World} {K : Value → World → Prop} (v : Value) (hr : (execOp a.eval o).run P w = .ok (.value v) w) (h : K v w) : hOp P o K a w := by
 unfold hOp
 rw [hr]
 exact h
/-- a new variable -/
theorem hOp_new {o : Oper} {a : Act} {w : World} {K : Value → World → Prop} (z : Array Value) (t : TypeId) (hr : (execOp a.eval o).run P w = .ok (.value (.pointer (some ⟨w.heap.size, 0, none⟩))) (w.alloc (.cells z t)))
  (h : ∀ b W, w.heap.size ≤ b → W.heap[b]? = some (.cells z t (0, 0)) → Below w.heap.size w W → K (.pointer (some ⟨b, 0, none⟩)) W) : hOp P o K a w := by
 unfold hOp
 rw [hr]
 exact h _ _ (Nat.le_refl _) (heap_new w _) ((Below.refl _ _).alloc (Nat.le_refl _) _)
/-- a store of a whole row -/
theorem hOp_storeW {o : Oper} {a : Act} {w : World} {K : Value → World → Prop} (g : Nat) (old row : Array Value) (t : TypeId) (hg : w.heap[g]? = some (.cells old t (0, 0))) (hr : (execOp a.eval o).run P w = .ok .skip (w.setRow g row))
  (h : ∀ W, W.heap[g]? = some (.cells row t (0, 0)) → (∀ k o, k ≠ g → w.heap[k]? = some o → W.heap[k]? = some o) → (∀ B v0, B ≤ g → Below B v0 w → Below B v0 W) → W.heap.size = w.heap.size → K undef W) : hOp P o K a w := by
 unfold hOp
 rw [hr]
 refine h _ ?_ (fun k o hk h0 => ?_) (fun B v0 hB hb => bel_setRow hb hB _) (by simp [World.setRow])
 ·simp [World.setRow, Array.getElem?_modify, hg]
 ·simp [World.setRow, Array.getElem?_modify, Ne.symm hk, h0]
end
end Go.Proofs.YtlicfidcfhbmpaaDoor.K
namespace Go.Proofs.YtlicfidcfhbmpaaDoor
open Go.RowKit Go.Proofs.YtlicfidcfhbmpaaDoor.K
section
variable {P : Program} {ev : Operand → Value} {o : Oper} {w : World} {x y : Operand} {t : TypeId}
end
end Go.Proofs.YtlicfidcfhbmpaaDoor

namespace Go.Proofs.YtlicfidcfhbmpaaDoor
set_option maxRecDepth 8000
open Go.RowKit Go.Proofs.YtlicfidcfhbmpaaDoor.K
attribute [local irreducible] wpList wpQuiet
theorem RowsU.grown {w w' : World} {t : TypeId} {base b0 : Nat} {bs : List Nat} {xss : List (List Nat)} {e : TypeId} {size n : Nat} {v : Value} {cs : List Value} (h : RowsU w t base bs xss) (ho : w.ownsRow b0 e size v n cs) (hg : w.grownBy w' v.ownBlock) (hne : t ≠ e) : RowsU w' t base bs xss :=
 ⟨h.len, h.ge, h.nd, fun i b xs hi hx => own_rowkeep ho hg (h.row i b xs hi hx) hne⟩
end Go.Proofs.YtlicfidcfhbmpaaDoor

namespace Go.Proofs.YtlicfidcfhbmpaaDoor
set_option maxRecDepth 8000
open Go.RowKit Go.Proofs.YtlicfidcfhbmpaaDoor.K
attribute [local irreducible] wpList wpQuiet
/-- own slices of words, under heads -/
structure OwnsU (w : World) (t : TypeId) (base : Nat) (hs : List Hd) (xss : List (List Nat)) : Prop where
 len : hs.length = xss.length
 row : ∀ (i : Nat) (h : Hd) (xs : List Nat), hs[i]? = some h → xss[i]? = some xs → xs.length = h.n ∧ w.ownsRow base t 1 (.slice h.A h.n h.c) h.n (fl wdC xs)
theorem OwnsU.keep {w w' : World} {t : TypeId} {base : Nat} {hs : List Hd} {xss : List (List Nat)} (h : OwnsU w t base hs xss) (hb : Below w.heap.size w w') : OwnsU w' t base hs xss := ⟨h.len, fun i d xs hi hx => ⟨(h.row i d xs hi hx).1, own_keep (h.row i d xs hi hx).2 hb⟩⟩
theorem own_growT {w w' : World} {b1 b2 : Nat} {e1 e2 : TypeId} {s1 s2 n1 n2 : Nat} {v1 v2 : Value} {c1 c2 : List Value} (h : w.ownsRow b1 e1 s1 v1 n1 c1) (ho : w.ownsRow b2 e2 s2 v2 n2 c2) (hg : w.grownBy w' v2.ownBlock) (hne : e1 ≠ e2) : w'.ownsRow b1 e1 s1 v1 n1 c1 := by
 refine ⟨h.1, ?_⟩
 rcases h.2 with hn | ⟨g, cap, cur, rfl, hbs, hgg, rest⟩
 ·exact .inl hn
 ·exact .inr ⟨g, cap, cur, rfl, hbs, own_rowkeep ho hg hgg hne, rest⟩
theorem OwnsU.grown {w w' : World} {t : TypeId} {base b0 : Nat} {hs : List Hd} {xss : List (List Nat)} {e : TypeId} {size n : Nat} {v : Value} {cs : List Value} (h : OwnsU w t base hs xss) (ho : w.ownsRow b0 e size v n cs) (hg : w.grownBy w' v.ownBlock) (hne : t ≠ e) : OwnsU w' t base hs xss :=
 ⟨h.len, fun i d xs hi hx => ⟨(h.row i d xs hi hx).1, own_growT (h.row i d xs hi hx).2 ho hg hne⟩⟩
theorem OwnsU.nil {w : World} {t : TypeId} {base : Nat} : OwnsU w t base [] [] := ⟨rfl, fun i h xs hi => by simp at hi⟩
theorem OwnsU.push {w : World} {t : TypeId} {base n c : Nat} {A : Option Addr} {hs : List Hd} {xss : List (List Nat)} {xs : List Nat} (h : OwnsU w t base hs xss) (ho : w.ownsRow base t 1 (.slice A n c) n (fl wdC xs)) (hl : xs.length = n) : OwnsU w t base (hs ++ [Hd.mk A n c]) (xss ++ [xs]) :=
 ⟨by simp [h.len], fun i d ys hi hx => by
  rw [List.getElem?_append] at hi hx
  rw [h.len] at hi
  split at hi
  ·next hlt => rw [if_pos hlt] at hx; exact h.row i d ys hi hx
  ·next hlt =>
   rw [if_neg hlt] at hx
   have h0 : i - xss.length = 0 := by have := (List.getElem?_eq_some_iff.1 hi).1; simp at this; omega
   rw [h0] at hi hx
   simp at hi hx
   subst hi hx
   exact ⟨hl, ho⟩⟩
theorem OwnsU.sg {w : World} {t : TypeId} {base : Nat} {hs : List Hd} {xss : List (List Nat)} (h : OwnsU w t base hs xss) {i : Nat} {d : Hd} {xs : List Nat} (hi : hs[i]? = some d) (hx : xss[i]? = some xs) : Sg wdC 1 w d.A d.n d.c xs := Sg.ownS (h.row i d xs hi hx).2
end Go.Proofs.YtlicfidcfhbmpaaDoor

namespace Go.Proofs.YtlicfidcfhbmpaaDoor.K
set_option maxRecDepth 8000
open Go.RowKit
section
variable {P : Program} {ev : Operand → Value} {o : Oper} {w : World} {x y z : Operand} {ty e : TypeId}
end
section
variable {α : Type} {E : α → List Value} {k : Nat} [hE : Enc E k] {w : World} {A : Option Addr} {n c : Nat} {xs : List α}
/-- a part of a slice, not empty -/
theorem Sg.cut {p q : Nat} (h : Sg E k w A n c xs) (hpq : p < q) (hq : q ≤ n) : Sg E k w (if c = p then A else A.map (·.add (p * k))) (q - p) (c - p) ((xs.drop p).take (q - p)) := by
 have hc := h.cap
 have ht := h.top
 rw [if_neg (by omega)]
 refine ⟨by rw [List.length_take, List.length_drop, h.len]; omega, by omega, by omega, fun e => ?_, fun i x hx => ?_⟩
 ·cases A with
  | none => have := h.nil rfl; omega
  | some a => cases e
 ·rw [List.getElem?_take] at hx
  split at hx
  ·rw [List.getElem?_drop] at hx
   obtain ⟨g, off, rfl, hr⟩ := h.at_ _ _ hx
   refine ⟨g, off + p * k, by simp [Addr.add_mid], ?_⟩
   rw [Nat.add_mul, ← Nat.add_assoc] at hr
   exact hr
  ·cases hx
end
end Go.Proofs.YtlicfidcfhbmpaaDoor.K
namespace Go.Proofs.YtlicfidcfhbmpaaDoor
open Go.RowKit Go.Proofs.YtlicfidcfhbmpaaDoor.K
/-- the string of bytes -/
def strB (xs : List Nat) : ByteArray := strOfNums (xs.map fun n : Nat => (n : Int))
theorem xg_str {P : Program} {ev : Operand → Value} {o : Oper} {w : World} {x : Operand} {src dst e : TypeId} {A : Option Addr} {n c : Nat} {xs : List Nat} (h : Sg byC 1 w A n c xs) (hn : 0 < n) (hs : P.underlying src = some (.slice e)) (he : P.underlying e = some (.int .u8)) (hd : P.underlying dst = some .string) (ho : o.op = .convert src dst x) (hx : ev x = .slice A n c) :
  (execOp ev o).run P w = .ok (.value (.string (strB xs))) w := by
 have hl := h.len
 obtain ⟨g, off, rfl, _⟩ := h.at_ 0 _ (List.getElem?_eq_getElem (by omega))
 have hr := run_convert_bytes_arg (P := P) w src e hs he g off n c (xs.map fun n : Nat => (n : Int)) (by rw [List.length_map, hl]) (fun i hi => by
  obtain ⟨g2, off2, e2, hr2⟩ := h.at_ i _ (List.getElem?_eq_getElem (by omega))
  injection e2 with e2
  injection e2 with e3 e4
  subst e3 e4
  have h3 := hr2 0 (.int .u8 (xs[i]'(by omega) : Int)) rfl
  rw [Nat.mul_one, Nat.add_zero] at h3
  rw [h3, List.getD_eq_getElem?_getD, List.getElem?_map, List.getElem?_eq_getElem (by omega)]
  rfl) dst hd
 unfold execOp
 simp only [ho, hx, Sem.run_bind]
 rw [hr]
 rfl
theorem Cols.cut {w : World} {A : Option Addr} {n c p q : Nat} {hs : List Hd} {xss : List (List Nat)} (h : Cols w A n c hs xss) (hpq : p < q) (hq : q ≤ n) : Cols w (if c = p then A else A.map (·.add (p * 1))) (q - p) (c - p) ((hs.drop p).take (q - p)) ((xss.drop p).take (q - p)) :=
 ⟨h.head.cut hpq hq, by simp [h.len], fun i d xs hi hx => by
  rw [List.getElem?_take] at hi hx
  split at hi
  ·next hlt =>
   rw [if_pos hlt] at hx
   rw [List.getElem?_drop] at hi hx
   exact h.row _ _ _ hi hx
  ·cases hi⟩
end Go.Proofs.YtlicfidcfhbmpaaDoor

namespace Go.Proofs.YtlicfidcfhbmpaaDoor.K
set_option maxRecDepth 8000
open Go.RowKit
section
variable {P : Program} {Q : Exit → Act → World → Prop} {ops : Array Oper} {S : World → Prop}
theorem wpAnyH_mono {S2 : World → Prop} (hS : ∀ w, S w → S2 w) : ∀ (n : Nat) (m : Array Bool) (a : Act) (w : World), wpAnyH P .any ops Q S n m a w → wpAnyH P .any ops Q S2 n m a w
 | 0, _, _, _, h => h
 | n + 1, _, _, _, h => ⟨h.1, fun i hi => wpOp_mono (fun a' w' h' => ⟨hS _ h'.1, wpAnyH_mono hS n _ a' w' h'.2⟩) (h.2 i hi)⟩
theorem OrdOK.drop {is : List Nat} : ∀ {pre done : List Nat}, OrdOK ops done (pre ++ is) → OrdOK ops (pre.reverse ++ done) is
 | [], _, h => h
 | p :: pre, done, h => by
  have h2 := OrdOK.drop (pre := pre) (OrdOK.tail h)
  rw [List.reverse_cons, List.append_assoc]
  exact h2
/-- a new slice -/
theorem hOp_mk {o : Oper} {a : Act} {w : World} {K : Value → World → Prop} (cs : Array Value) (t : TypeId) (n c : Nat) (hr : (execOp a.eval o).run P w = .ok (.value (.slice (some ⟨w.heap.size, 0, none⟩) n c)) (w.alloc (.cells cs t)))
  (h : ∀ b W, w.heap.size ≤ b → W.heap[b]? = some (.cells cs t (0, 0)) → Below w.heap.size w W → K (.slice (some ⟨b, 0, none⟩) n c) W) : hOp P o K a w := by
 unfold hOp
 rw [hr]
 exact h _ _ (Nat.le_refl _) (heap_new w _) ((Below.refl _ _).alloc (Nat.le_refl _) _)
end
end Go.Proofs.YtlicfidcfhbmpaaDoor.K

namespace Go.Proofs.YtlicfidcfhbmpaaDoor.K
set_option maxRecDepth 8000
open Go.RowKit
section
variable {P : Program} {ops : Array Oper} {Q : Exit → Act → World → Prop}
def wpX (P : Program) (ops : Array Oper) (Q : Exit → Act → World → Prop) : OT → Act → World → Prop
 | .nil, a, w => Q .normal a w
 | .q i t, a, w => ∃ o, ops[i]? = some o ∧ ∃ v, YieldsIf P ops (fun W => Below w.heap.size w W) o v a ∧ wpX P ops Q t (a.put o.dst v) w
 | .one i t, a, w => ∃ o, ops[i]? = some o ∧ Region.wanted o (yielded ops a.tmps) = true ∧ hOp P o (fun v w' => Below w.heap.size w w' ∧ wpX P ops Q t (a.put o.dst v) w') a w
 | .fork i t j u, a, w => (∃ o, ops[i]? = some o ∧ Region.wanted o (yielded ops a.tmps) = true ∧ hOp P o (fun v w' => Below w.heap.size w w' ∧ wpX P ops Q t (a.put o.dst v) w') a w) ∧
   (∃ o, ops[j]? = some o ∧ Region.wanted o (yielded ops a.tmps) = true ∧ hOp P o (fun v w' => Below w.heap.size w w' ∧ wpX P ops Q u (a.put o.dst v) w') a w)
theorem wpAnyH_of_wpX (hs : Region.noSelect ops = true) (hQ : ∀ c a (dt : Option Tmp) v w, Q (.panic c) (Act.put a dt v) w → Q (.panic c) a w) : ∀ (t : OT) (m : Array Bool) (a : Act) (w : World), okT ops t m = true → wpX P ops Q t a w → wpAnyH P .any ops Q (fun W => Below w.heap.size w W) t.len m a w
 | .nil, m, a, w, ho, h => wpAnyH_done (by unfold okT at ho; simpa using ho) h _
 | .q i t, m, a, w, ho, h => by
  unfold okT at ho
  rw [Bool.and_eq_true, Bool.and_eq_true] at ho
  obtain ⟨o, hi, v, hy, hk⟩ := h
  exact wpAnyH_take hi hs ho.1.1 ho.1.2 (fun c a w h => hQ c a _ _ w h) hy (Below.refl _ _) (wpAnyH_of_wpX hs hQ t _ _ w ho.2 hk)
 | .one i t, m, a, w, ho, h => by
  unfold okT at ho
  rw [Bool.and_eq_true] at ho
  obtain ⟨o, hi, hw, hk⟩ := h
  refine wpAnyH_all (rs := [i]) (by simpa using ho.1) (by simp) ?_
  intro j hj
  obtain rfl : j = i := by simpa using hj
  exact wpOp_of_hOp hi hw (hOp_mono (fun v w' hk => ⟨hk.1, wpAnyH_mono (S := fun W => Below w'.heap.size w' W) (fun W (hW : Below w'.heap.size w' W) => hk.1.trans (hW.mono hk.1.size)) _ _ _ _ (wpAnyH_of_wpX hs hQ t _ _ w' ho.2 hk.2)⟩) hk)
 | .fork i t j u, m, a, w, ho, h => by
  unfold okT at ho
  rw [Bool.and_eq_true, Bool.and_eq_true, Bool.and_eq_true] at ho
  obtain ⟨⟨⟨h1, h2⟩, h3⟩, h4⟩ := ho
  have h2 : t.len = u.len := by simpa using h2
  obtain ⟨⟨o, hi, hw, hk⟩, ⟨o2, hi2, hw2, hk2⟩⟩ := h
  refine wpAnyH_all (rs := [i, j]) (by simpa using h1) (by simp) ?_
  intro q hq
  rcases List.mem_cons.1 hq with rfl | hq
  ·exact wpOp_of_hOp hi hw (hOp_mono (fun v w' hk => ⟨hk.1, wpAnyH_mono (S := fun W => Below w'.heap.size w' W) (fun W (hW : Below w'.heap.size w' W) => hk.1.trans (hW.mono hk.1.size)) _ _ _ _ (wpAnyH_of_wpX hs hQ t _ _ w' h3 hk.2)⟩) hk)
  ·obtain rfl : q = j := by simpa using hq
   exact wpOp_of_hOp hi2 hw2 (hOp_mono (fun v w' hk => ⟨hk.1, wpAnyH_mono (S := fun W => Below w'.heap.size w' W) (fun W (hW : Below w'.heap.size w' W) => hk.1.trans (hW.mono hk.1.size)) _ _ _ _ (by have := wpAnyH_of_wpX hs hQ u _ _ w' h4 hk.2; rw [← h2] at this; exact this)⟩) hk2)
theorem wp_ordX (t : OT) {id : Nat} {a : Act} {w : World} {l : List Oper} (hm : P.follows .mixedOrders = true) (hs : Region.noSelect l.toArray = true) (hQ : ∀ c a (dt : Option Tmp) v w, Q (.panic c) (Act.put a dt v) w → Q (.panic c) a w)
  (hn : t.len = l.length) (ho : okT l.toArray t (Array.replicate l.length false) = true) (h : ∀ V, Below w.heap.size w V → wpX P l.toArray Q t a V) : (Code.region id l.toArray true).wp P Q a w := by
 refine wp_region_held (S := fun W => Below w.drew.heap.size w.drew W) hm ?_
 have := wpAnyH_of_wpX hs hQ t _ a w.drew ho (h _ (Below.refl _ _).drew)
 rw [hn] at this
 simpa using this
theorem wpX_nil {a : Act} {w : World} (h : Q .normal a w) : wpX P ops Q .nil a w := h
theorem wpX_q {i : Nat} {t : OT} {o : Oper} {l : List Oper} {a : Act} {w : World} (v : Value) (hi : l[i]? = some o) (hw : Region.wanted o (yielded l.toArray a.tmps) = true) (hr : ∀ w', Below w.heap.size w w' → (execOp a.eval o).run P w' = .ok (.value v) w') (h : wpX P l.toArray Q t (a.put o.dst v) w) : wpX P l.toArray Q (.q i t) a w :=
 ⟨o, by simpa using hi, v, .inl ⟨hw, hr⟩, h⟩
theorem wpX_skip {i : Nat} {t : OT} {o : Oper} {l : List Oper} {a : Act} {w : World} (hi : l[i]? = some o) (hw : Region.wanted o (yielded l.toArray a.tmps) = false) (h : wpX P l.toArray Q t (a.put o.dst undef) w) : wpX P l.toArray Q (.q i t) a w :=
 ⟨o, by simpa using hi, undef, .inr ⟨hw, rfl⟩, h⟩
theorem wpX_one {i : Nat} {t : OT} {o : Oper} {l : List Oper} {a : Act} {w : World} (hi : l[i]? = some o) (hw : Region.wanted o (yielded l.toArray a.tmps) = true) (h : hOp P o (fun v w' => Below w.heap.size w w' ∧ wpX P l.toArray Q t (a.put o.dst v) w') a w) : wpX P l.toArray Q (.one i t) a w :=
 ⟨o, by simpa using hi, hw, h⟩
end
end Go.Proofs.YtlicfidcfhbmpaaDoor.K

namespace Go.Proofs.YtlicfidcfhbmpaaDoor.K
set_option maxRecDepth 8000
open Go.RowKit
def putL : List (Tmp × Value) → Act → Act
 | [], a => a
 | (t, v) :: l, a => putL l (a.put (some t) v)
section
variable {P : Program} {Q : Exit → Act → World → Prop}
def cutQ {α : Type} (D : α → List (Tmp × Value)) (F : α → World → Prop) (a : Act) : Exit → Act → World → Prop
 | .normal, a', w' => ∃ x, a' = putL (D x) a ∧ F x w'
 | _, _, _ => False
/-- what a region leaves is said once -/
theorem wp_cutP {α : Type} (D : α → List (Tmp × Value)) (F : α → World → Prop) {c : Code} {a : Act} {w : World} (h1 : c.wp P (cutQ D F a) a w) (h2 : ∀ x W, F x W → Q .normal (putL (D x) a) W) : c.wp P Q a w :=
 wp_mono h1 fun e a' w' h => by
  cases e with
  | normal => obtain ⟨x, rfl, hF⟩ := h; exact h2 x w' hF
  | _ => exact h.elim
variable {ops : Array Oper} {w0 : World}
end
section
variable {α : Type} {E : α → List Value} {k : Nat} [hE : Enc E k] {P : Program} {w : World} {e : TypeId}
end
end Go.Proofs.YtlicfidcfhbmpaaDoor.K

namespace Go.Proofs.YtlicfidcfhbmpaaDoor.K
set_option maxRecDepth 8000
open Go.RowKit
/-- the string of these bytes -/
def sB (l : List UInt8) : ByteArray := ⟨l.toArray⟩
theorem sB_data (l : List UInt8) : (sB l).data.toList = l := by simp [sB]
theorem sB_size (l : List UInt8) : (sB l).size = l.length := by simp [sB, ByteArray.size]
theorem sB_of (s : ByteArray) : sB s.data.toList = s := by cases s; simp [sB]
theorem sB_add (a b : List UInt8) : sB a ++ sB b = sB (a ++ b) := by
 apply WideShapes.bytes_inj
 simp [sB]
theorem sB_cut (l : List UInt8) (i j : Nat) : (sB l).extract i j = sB ((l.take j).drop i) := by
 apply WideShapes.bytes_inj
 simp [sB, List.extract_eq_take_drop, List.drop_take]
theorem sB_get {l : List UInt8} {i : Nat} {b : UInt8} (h : l[i]? = some b) : (sB l)[i]? = some b := by
 obtain ⟨hi, rfl⟩ := List.getElem?_eq_some_iff.1 h
 have : i < (sB l).size := by rw [sB_size]; exact hi
 rw [getElem?_pos (sB l) i this]
 rfl
theorem beq_dec (a b : List UInt8) : (a == b) = decide (a = b) := by rw [Bool.eq_iff_iff, beq_iff_eq, decide_eq_true_iff]
section
variable {P : Program} {ev : Operand → Value} {o : Oper} {w : World} {x y : Operand} {ty t : TypeId}
theorem xs_len (l : List UInt8) (hu : P.underlying ty = some .string) (ho : o.op = .call { callee := .builtin .len, args := #[x], argTypes := #[ty] }) (hx : ev x = .string (sB l)) : (execOp ev o).run P w = .ok (.value (.int .i64 (l.length : Int))) w := by
 have h := xo_lenS (w := w) (sB l) hu ho hx
 rw [sB_size] at h
 exact h
theorem xs_lenN (l : List UInt8) (n : Nat) (hn : l.length = n) (hu : P.underlying ty = some .string) (ho : o.op = .call { callee := .builtin .len, args := #[x], argTypes := #[ty] }) (hx : ev x = .string (sB l)) : (execOp ev o).run P w = .ok (.value (.int .i64 (n : Int))) w := by
 rw [← hn]
 exact xs_len l hu ho hx
theorem xs_idx (l : List UInt8) (i : Nat) (b : UInt8) (h : l[i]? = some b) (hu : P.underlying ty = some .string) (ho : o.op = .index ty x y) (hx : ev x = .string (sB l)) (hy : ev y = .int .i64 (i : Int)) : (execOp ev o).run P w = .ok (.value (.int .u8 (b.toNat : Int))) w := by
 unfold execOp
 simp only [ho, hx, hy]
 have h0 : (0 : Int) ≤ (i : Int) := by omega
 simp [Instr.index, go_sem, run_underlying hu, sB_get h, Result.andThen]
theorem xs_cut (l : List UInt8) (i j : Nat) (hij : i ≤ j) (hj : j ≤ l.length) {z : Operand} (hu : P.underlying ty = some .string) (ho : o.op = .slice ty x (some y) (some z) none) (hx : ev x = .string (sB l)) (hy : ev y = .int .i64 (i : Int)) (hz : ev z = .int .i64 (j : Int)) : (execOp ev o).run P w = .ok (.value (.string (sB ((l.take j).drop i)))) w := by
 have b1 : (Instr.sliceBound (.int .i64 (j : Int)) (sB l).size .sliceAlen).run P w = .ok j w := by
  have : (j : Int) ≤ ((sB l).size : Int) := by rw [sB_size]; omega
  simp [Instr.sliceBound, asIntOf, Sem.run_bind, this]
 have b2 : (Instr.sliceBound (.int .i64 (i : Int)) j .sliceB).run P w = .ok i w := by
  have : (i : Int) ≤ (j : Int) := by omega
  simp [Instr.sliceBound, asIntOf, Sem.run_bind, this]
 unfold execOp
 simp only [ho, Option.map, Sem.run_bind, Instr.sliceAt, hx, hy, hz]
 rw [run_underlying hu, Result.andThen_ok]
 simp only [Instr.slice, Sem.run_bind]
 rw [run_underlying hu, Result.andThen_ok]
 simp [Instr.sliceBounds, Sem.run_bind, Sem.run_pure, b1, b2, sB_cut]
theorem xs_add (a b : List UInt8) (hl : a.length + b.length ≤ 1000000) (hu : P.underlying ty = some .string) (ho : o.op = .binOp .add ty x y t) (hx : ev x = .string (sB a)) (hy : ev y = .string (sB b)) : (execOp ev o).run P w = .ok (.value (.string (sB (a ++ b)))) w := by
 unfold execOp
 simp only [ho, hx, hy]
 have h1 : ¬ 9223372036854775807 < ((sB a).size : Int) + ((sB b).size : Int) := by rw [sB_size, sB_size]; omega
 simp [go_sem, run_underlying hu, Op.stringOp, h1, sB_add, Result.andThen]
theorem xs_eq (a b : List UInt8) (hu : P.underlying ty = some .string) (ho : o.op = .binOp .eql ty x y t) (hx : ev x = .string (sB a)) (hy : ev y = .string (sB b)) : (execOp ev o).run P w = .ok (.value (.bool (decide (a = b)))) w := by
 unfold execOp
 simp only [ho, hx, hy]
 simp [go_sem, run_underlying hu, Result.andThen, ByteArray.toList_eq, sB_data, beq_dec]
theorem xs_ne (a b : List UInt8) (hu : P.underlying ty = some .string) (ho : o.op = .binOp .neq ty x y t) (hx : ev x = .string (sB a)) (hy : ev y = .string (sB b)) : (execOp ev o).run P w = .ok (.value (.bool (!decide (a = b)))) w := by
 unfold execOp
 simp only [ho, hx, hy]
 simp [go_sem, run_underlying hu, Result.andThen, ByteArray.toList_eq, sB_data, beq_dec]
theorem xo_nil (a : Addr) (ho : o.op = .nilCheck x) (hx : ev x = .pointer (some a)) : (execOp ev o).run P w = .ok (.value (.pointer (some a))) w := by
 unfold execOp
 simp only [ho, hx]
 go_simp
end
theorem hOp_callF {P : Program} {o : Oper} {a : Act} {w : World} {K : Value → World → Prop} {fn : Func} (f : FuncId) (hf : P.funcs[f]? = some fn) (hname : (fn.name == "runtime.NumGoroutine") = false) (hb : fn.body.isNone = false) (x : Tmp) (xs : Array Operand) (fst : Array Value) (ts : Array TypeId) (ho : o.op = .call { callee := .value (.tmp x), args := xs, argTypes := ts })
  (hx : a.eval (.tmp x) = .func (.func f) fst #[]) (args : Array Value) (hargs : xs.map a.eval = args) (h : Calls P f (fst ++ args) w fun e w' => ∃ v, e = .returned v ∧ K v w') : hOp P o K a w := by
 unfold hOp execOp
 simp only [ho]
 have e : (do let d ← resolve a.eval { callee := .value (.tmp x), args := xs, argTypes := ts } o.type; invoke d.target d.args : Sem Next).run P w = .ok (.enter f (fst ++ args)) w := by
  have h1 : fn.name ≠ "runtime.NumGoroutine" := by simpa using hname
  have h2 : fn.body ≠ none := by
   intro e
   rw [e] at hb
   cases hb
  have hx' : a.tmps[x]?.getD undef = .func (.func f) fst #[] := by simpa [Act.eval] using hx
  subst hargs
  simp [resolve, Deferred.ofValue, invoke, go_sem, hx', callFunc, hf, h1, h2]
 rw [e]
 exact h
end Go.Proofs.YtlicfidcfhbmpaaDoor.K

namespace Qu
set_option maxRecDepth 8000
def isSp (b : UInt8) : Bool := decide (b.toNat = 32) || (decide (b.toNat = 9) || (decide (b.toNat = 13) || decide (b.toNat = 10)))
def isLt (b : UInt8) : Bool := decide (97 ≤ b.toNat) && decide (b.toNat ≤ 122)
def isDg (b : UInt8) : Bool := decide (48 ≤ b.toNat) && decide (b.toNat ≤ 57)
/-- a token: its class (0 end, 1 none, 2 word, 3 number, 4 dots, 5 equals) and its text -/
structure Tk where
 cls : Nat
 tx : List UInt8
 deriving DecidableEq
/-- the parser's state: the next token, its offset, the bytes that are read -/
structure St where
 tok : Tk
 off : Nat
 pos : Nat
 deriving DecidableEq
def runE (p : UInt8 → Bool) (s : List UInt8) (i : Nat) : Nat := i + ((s.drop i).takeWhile p).length
theorem runE_le {p : UInt8 → Bool} {s : List UInt8} {i : Nat} (h : i ≤ s.length) : runE p s i ≤ s.length := by
 unfold runE
 have h1 : ((s.drop i).takeWhile p).length ≤ (s.drop i).length := (List.takeWhile_prefix p).length_le
 rw [List.length_drop] at h1
 omega
theorem runE_ge (p : UInt8 → Bool) (s : List UInt8) (i : Nat) : i ≤ runE p s i := Nat.le_add_right _ _
theorem runE_yes {p : UInt8 → Bool} {s : List UInt8} {i : Nat} {b : UInt8} (h : s[i]? = some b) (hp : p b = true) : runE p s i = runE p s (i + 1) := by
 unfold runE
 obtain ⟨hi, rfl⟩ := List.getElem?_eq_some_iff.1 h
 rw [List.drop_eq_getElem_cons hi, List.takeWhile_cons_of_pos hp, List.length_cons]
 omega
theorem runE_no {p : UInt8 → Bool} {s : List UInt8} {i : Nat} {b : UInt8} (h : s[i]? = some b) (hp : p b = false) : runE p s i = i := by
 unfold runE
 obtain ⟨hi, rfl⟩ := List.getElem?_eq_some_iff.1 h
 rw [List.drop_eq_getElem_cons hi, List.takeWhile_cons_of_neg (by rw [hp]; exact Bool.false_ne_true)]
 rfl
theorem runE_end {p : UInt8 → Bool} {s : List UInt8} {i : Nat} (h : s.length ≤ i) : runE p s i = i := by
 unfold runE
 rw [List.drop_of_length_le h]
 rfl
/-- the text goes on with these bytes -/
def bgN (s : List UInt8) (i : Nat) (g : List UInt8) : Bool := decide (g.length ≤ s.length - i) && decide ((s.take (i + g.length)).drop i = g)
def nxt (s : List UInt8) (q : Nat) : St :=
 match s[runE isSp s q]? with
 | none => ⟨⟨0, []⟩, runE isSp s q, runE isSp s q⟩
 | some b =>
  if isLt b then ⟨⟨2, (s.take (runE isLt s (runE isSp s q))).drop (runE isSp s q)⟩, runE isSp s q, runE isLt s (runE isSp s q)⟩
  else if isDg b then ⟨⟨3, (s.take (runE isDg s (runE isSp s q))).drop (runE isSp s q)⟩, runE isSp s q, runE isDg s (runE isSp s q)⟩
  else if bgN s (runE isSp s q) [46, 46] then ⟨⟨4, []⟩, runE isSp s q, runE isSp s q + 2⟩
  else if bgN s (runE isSp s q) [61] then ⟨⟨5, []⟩, runE isSp s q, runE isSp s q + 1⟩
  else ⟨⟨1, []⟩, runE isSp s q, runE isSp s q⟩
theorem nxt_end {s : List UInt8} {i j : Nat} (hj : runE isSp s i = j) (h : s[j]? = none) : nxt s i = ⟨⟨0, []⟩, j, j⟩ := by
 unfold nxt
 rw [hj, h]
theorem nxt_word {s : List UInt8} {i j : Nat} {b : UInt8} (hj : runE isSp s i = j) (h : s[j]? = some b) (hl : isLt b = true) : nxt s i = ⟨⟨2, (s.take (runE isLt s j)).drop j⟩, j, runE isLt s j⟩ := by
 unfold nxt
 rw [hj, h]
 show (if isLt b = true then _ else _) = _
 rw [if_pos hl]
theorem nxt_num {s : List UInt8} {i j : Nat} {b : UInt8} (hj : runE isSp s i = j) (h : s[j]? = some b) (hl : isLt b = false) (hd : isDg b = true) : nxt s i = ⟨⟨3, (s.take (runE isDg s j)).drop j⟩, j, runE isDg s j⟩ := by
 unfold nxt
 rw [hj, h]
 show (if isLt b = true then _ else if isDg b = true then _ else _) = _
 rw [if_neg (by rw [hl]; decide), if_pos hd]
theorem nxt_dots {s : List UInt8} {i j : Nat} {b : UInt8} (hj : runE isSp s i = j) (h : s[j]? = some b) (hl : isLt b = false) (hd : isDg b = false) (h4 : bgN s j [46, 46] = true) : nxt s i = ⟨⟨4, []⟩, j, j + 2⟩ := by
 unfold nxt
 rw [hj, h]
 show (if isLt b = true then _ else if isDg b = true then _ else if bgN s j [46, 46] = true then _ else _) = _
 rw [if_neg (by rw [hl]; decide), if_neg (by rw [hd]; decide), if_pos h4]
theorem nxt_eq {s : List UInt8} {i j : Nat} {b : UInt8} (hj : runE isSp s i = j) (h : s[j]? = some b) (hl : isLt b = false) (hd : isDg b = false) (h4 : bgN s j [46, 46] = false) (h5 : bgN s j [61] = true) : nxt s i = ⟨⟨5, []⟩, j, j + 1⟩ := by
 unfold nxt
 rw [hj, h]
 show (if isLt b = true then _ else if isDg b = true then _ else if bgN s j [46, 46] = true then _ else if bgN s j [61] = true then _ else _) = _
 rw [if_neg (by rw [hl]; decide), if_neg (by rw [hd]; decide), if_neg (by rw [h4]; decide), if_pos h5]
theorem nxt_bad {s : List UInt8} {i j : Nat} {b : UInt8} (hj : runE isSp s i = j) (h : s[j]? = some b) (hl : isLt b = false) (hd : isDg b = false) (h4 : bgN s j [46, 46] = false) (h5 : bgN s j [61] = false) : nxt s i = ⟨⟨1, []⟩, j, j⟩ := by
 unfold nxt
 rw [hj, h]
 show (if isLt b = true then _ else if isDg b = true then _ else if bgN s j [46, 46] = true then _ else if bgN s j [61] = true then _ else _) = _
 rw [if_neg (by rw [hl]; decide), if_neg (by rw [hd]; decide), if_neg (by rw [h4]; decide), if_neg (by rw [h5]; decide)]
theorem bgN_le {s : List UInt8} {i : Nat} {g : List UInt8} (h : bgN s i g = true) (hi : i ≤ s.length) : i + g.length ≤ s.length := by
 unfold bgN at h
 simp only [Bool.and_eq_true, decide_eq_true_eq] at h
 omega
/-- a state of a text -/
def Ok (s : List UInt8) (st : St) : Prop := st.pos ≤ s.length ∧ st.off ≤ s.length ∧ st.tok.tx.length ≤ s.length
theorem nxt_ok {s : List UInt8} {q : Nat} (h : q ≤ s.length) : Ok s (nxt s q) := by
 have h1 : runE isSp s q ≤ s.length := runE_le h
 have hc : ∀ j, ((s.take j).drop (runE isSp s q)).length ≤ s.length := fun j => by rw [List.length_drop, List.length_take]; omega
 unfold nxt
 split
 ·exact ⟨h1, h1, Nat.zero_le _⟩
 ·split
  ·exact ⟨runE_le h1, h1, hc _⟩
  ·split
   ·exact ⟨runE_le h1, h1, hc _⟩
   ·split
    ·next hb => exact ⟨bgN_le hb h1, h1, Nat.zero_le _⟩
    ·split
     ·next hb => exact ⟨bgN_le hb h1, h1, Nat.zero_le _⟩
     ·exact ⟨h1, h1, Nat.zero_le _⟩
def adv (s : List UInt8) (st : St) : St := nxt s st.pos
theorem adv_ok {s : List UInt8} {st : St} (h : Ok s st) : Ok s (adv s st) := nxt_ok h.1
def refN (st : St) : Nat := if st.tok = ⟨0, []⟩ then 131 else 130
theorem refN_ne (st : St) : refN st ≠ 0 := by unfold refN; split <;> decide
/-- the accepting step -/
def accS (s : List UInt8) (t : Tk) (st : St) : St := if st.tok = t then adv s st else st
theorem accS_ok {s : List UInt8} {t : Tk} {st : St} (h : Ok s st) : Ok s (accS s t st) := by unfold accS; split; exact adv_ok h; exact h
def expN (t : Tk) (st : St) : Nat := if st.tok = t then 0 else refN st
def numOf (l : List UInt8) : Nat := l.foldl (fun n b => min (10 * n + (b - 48).toNat) 65537) 0
/-- a result, an error, the state behind -/
structure Rs (α : Type) where
 val : α
 err : Nat
 st : St
def numN (s : List UInt8) (lo hi : Nat) (st : St) : Rs Nat :=
 if st.tok.cls = 3 then (if numOf st.tok.tx < lo ∨ hi < numOf st.tok.tx then ⟨0, 1, st⟩ else ⟨numOf st.tok.tx, 0, adv s st⟩) else ⟨0, refN st, st⟩
def nameN : Nat → List UInt8
 | 0 => [119, 104, 111]
 | 1 => [119, 104, 101, 110]
 | 2 => [107, 105, 110, 100]
 | _ => [118, 97, 108, 117, 101]
def maxN : Nat → Nat
 | 0 => 15
 | 1 => 255
 | 2 => 15
 | _ => 255
def kwN : Nat → List UInt8
 | 1 => [99, 111, 117, 110, 116]
 | 2 => [116, 111, 116, 97, 108]
 | 3 => [109, 111, 109, 101, 110, 116]
 | 4 => [103, 114, 111, 117, 112, 115]
 | 5 => [100, 105, 115, 116, 105, 110, 99, 116]
 | 6 => [115, 109, 97, 108, 108, 101, 115, 116]
 | _ => [112, 97, 105, 114, 115]
/-- the first of the names from i on, n of them, that the token is -/
def findT (f : Nat → List UInt8) (t : Tk) : Nat → Nat → Option Nat
 | _, 0 => none
 | i, n + 1 => if t = ⟨2, f i⟩ then some i else findT f t (i + 1) n
def pickT (s : List UInt8) (f : Nat → List UInt8) (i n : Nat) (st : St) : Rs Nat := match findT f st.tok i n with
 | some j => ⟨j, 0, adv s st⟩
 | none => ⟨0, refN st, st⟩
def colN (s : List UInt8) (st : St) : Rs Nat := pickT s nameN 0 4 st
def kindN (s : List UInt8) (st : St) : Rs Nat := pickT s kwN 1 7 st
structure Cd where
 col : Nat
 lo : Nat
 hi : Nat
 deriving DecidableEq
def singleN (s : List UInt8) (col : Nat) (st : St) : Rs Cd :=
 if (numN s 0 (maxN col) st).err = 0 then ⟨⟨col, (numN s 0 (maxN col) st).val, (numN s 0 (maxN col) st).val⟩, 0, (numN s 0 (maxN col) st).st⟩ else ⟨⟨0, 0, 0⟩, (numN s 0 (maxN col) st).err, (numN s 0 (maxN col) st).st⟩
def rangeN (s : List UInt8) (col : Nat) (st : St) : Rs Cd :=
 let a := numN s 0 (maxN col) st
 if a.err = 0 then
  let st1 := accS s ⟨4, []⟩ a.st
  if expN ⟨4, []⟩ a.st = 0 then
   let b := numN s a.val (maxN col) st1
   if b.err = 0 then ⟨⟨col, a.val, b.val⟩, 0, b.st⟩ else ⟨⟨0, 0, 0⟩, b.err, b.st⟩
  else ⟨⟨0, 0, 0⟩, expN ⟨4, []⟩ a.st, st1⟩
 else ⟨⟨0, 0, 0⟩, a.err, a.st⟩
def condN (s : List UInt8) (st : St) : Rs Cd :=
 let a := colN s st
 if a.err = 0 then
  if a.st.tok = ⟨5, []⟩ then singleN s a.val (adv s a.st)
  else if expN ⟨2, [105, 110]⟩ a.st = 0 then rangeN s a.val (accS s ⟨2, [105, 110]⟩ a.st) else ⟨⟨0, 0, 0⟩, expN ⟨2, [105, 110]⟩ a.st, accS s ⟨2, [105, 110]⟩ a.st⟩
 else ⟨⟨0, 0, 0⟩, a.err, a.st⟩
/-- a filter, n conditions at most; the word that leads the next one -/
def filterN (s : List UInt8) : Nat → List UInt8 → List Cd → St → Rs (List Cd)
 | 0, _, l, st => ⟨l, 0, st⟩
 | n + 1, w, l, st =>
  if st.tok = ⟨2, w⟩ then
   let c := condN s (adv s st)
   if c.err = 0 then filterN s n [97, 110, 100] (l ++ [c.val]) c.st else ⟨[], c.err, c.st⟩
  else ⟨l, 0, st⟩
def whereN : List UInt8 := [119, 104, 101, 114, 101]
def withN : List UInt8 := [119, 105, 116, 104]
def filtersN (s : List UInt8) : Nat → List (List Cd) → St → Rs (List (List Cd))
 | 0, fs, st => ⟨fs, 0, st⟩
 | n + 1, fs, st =>
  if fs.length = 0 then
   let l := filterN s 3 whereN [] st
   if l.err = 0 then filtersN s n (fs ++ [l.val]) l.st else ⟨[], l.err, l.st⟩
  else if expN ⟨2, withN⟩ st = 0 then
   let l := filterN s 3 whereN [] (accS s ⟨2, withN⟩ st)
   if l.err = 0 then filtersN s n (fs ++ [l.val]) l.st else ⟨[], l.err, l.st⟩
  else ⟨[], expN ⟨2, withN⟩ st, accS s ⟨2, withN⟩ st⟩
structure Qy where
 kind : Nat
 col : Nat
 k : Nat
 fs : List (List Cd)
 deriving DecidableEq
def hasC (k : Nat) : Bool := decide (2 ≤ k) && decide (k ≤ 6)
def maxK : Nat → Nat
 | 3 => 6
 | 6 => 65536
 | _ => 0
def numF : Nat → Nat
 | 7 => 2
 | _ => 1
def zeroQ : Qy := ⟨0, 0, 0, []⟩
def queryN (s : List UInt8) (st : St) : Rs Qy :=
 let a := kindN s st
 if a.err = 0 then
  let b := if hasC a.val then colN s a.st else ⟨0, 0, a.st⟩
  if b.err = 0 then
   let c := if 0 < maxK a.val then numN s 1 (maxK a.val) b.st else ⟨0, 0, b.st⟩
   if c.err = 0 then
    let d := filtersN s (numF a.val) [] c.st
    if d.err = 0 then ⟨⟨a.val, b.val, c.val, d.val⟩, expN ⟨0, []⟩ d.st, accS s ⟨0, []⟩ d.st⟩ else ⟨zeroQ, d.err, d.st⟩
   else ⟨zeroQ, c.err, c.st⟩
  else ⟨zeroQ, b.err, b.st⟩
 else ⟨zeroQ, a.err, a.st⟩
/-- what Parse answers: the query, the offset, the error -/
def parseN (s : List UInt8) : Qy × Nat × Nat :=
 if 400 < s.length then (zeroQ, 0, 2)
 else if (queryN s (nxt s 0)).err = 0 then ((queryN s (nxt s 0)).val, 0, 0) else (zeroQ, (queryN s (nxt s 0)).st.off, (queryN s (nxt s 0)).err)
theorem numN_ok {s : List UInt8} {lo hi : Nat} {st : St} (h : Ok s st) : Ok s (numN s lo hi st).st := by
 unfold numN
 split
 ·split
  ·exact h
  ·exact adv_ok h
 ·exact h
theorem numOf_le (l : List UInt8) : numOf l ≤ 65537 := by
 unfold numOf
 rcases List.eq_nil_or_concat l with rfl | ⟨l', b, rfl⟩
 ·simp
 ·rw [List.concat_eq_append, List.foldl_append]
  exact Nat.min_le_right _ _
theorem numN_le (s : List UInt8) (lo hi : Nat) (st : St) : (numN s lo hi st).val ≤ 65537 := by
 unfold numN
 split
 ·split
  ·exact Nat.zero_le _
  ·exact numOf_le _
 ·exact Nat.zero_le _
theorem pickT_ok {s : List UInt8} {f : Nat → List UInt8} {i n : Nat} {st : St} (h : Ok s st) : Ok s (pickT s f i n st).st := by
 unfold pickT
 split
 ·exact adv_ok h
 ·exact h
theorem findT_lt {f : Nat → List UInt8} {t : Tk} : ∀ {i n j : Nat}, findT f t i n = some j → i ≤ j ∧ j < i + n
 | _, 0, _, h => by simp [findT] at h
 | i, n + 1, j, h => by
  unfold findT at h
  split at h
  ·injection h with h
   omega
  ·have := findT_lt h
   omega
theorem singleN_ok {s : List UInt8} {c : Nat} {st : St} (h : Ok s st) : Ok s (singleN s c st).st := by
 unfold singleN
 split <;> exact numN_ok h
theorem rangeN_ok {s : List UInt8} {c : Nat} {st : St} (h : Ok s st) : Ok s (rangeN s c st).st := by
 unfold rangeN
 have h1 := numN_ok (lo := 0) (hi := maxN c) h
 simp only
 split
 ·split
  ·split <;> exact numN_ok (accS_ok h1)
  ·exact accS_ok h1
 ·exact h1
theorem condN_ok {s : List UInt8} {st : St} (h : Ok s st) : Ok s (condN s st).st := by
 unfold condN
 have h1 : Ok s (colN s st).st := pickT_ok h
 simp only
 split
 ·split
  ·exact singleN_ok (adv_ok h1)
  ·split
   ·exact rangeN_ok (accS_ok h1)
   ·exact accS_ok h1
 ·exact h1
theorem filterN_ok {s : List UInt8} : ∀ (n : Nat) (w : List UInt8) (l : List Cd) {st : St}, Ok s st → Ok s (filterN s n w l st).st
 | 0, _, _, _, h => h
 | n + 1, w, l, st, h => by
  unfold filterN
  split
  ·simp only
   split
   ·exact filterN_ok n _ _ (condN_ok (adv_ok h))
   ·exact condN_ok (adv_ok h)
  ·exact h
theorem filtersN_ok {s : List UInt8} : ∀ (n : Nat) (fs : List (List Cd)) {st : St}, Ok s st → Ok s (filtersN s n fs st).st
 | 0, _, _, h => h
 | n + 1, fs, st, h => by
  unfold filtersN
  split
  ·simp only
   split
   ·exact filtersN_ok n _ (filterN_ok _ _ _ h)
   ·exact filterN_ok _ _ _ h
  ·split
   ·simp only
    split
    ·exact filtersN_ok n _ (filterN_ok _ _ _ (accS_ok h))
    ·exact filterN_ok _ _ _ (accS_ok h)
   ·exact accS_ok h
end Qu

namespace Go.Proofs.YtlicfidcfhbmpaaDoor.K
set_option maxRecDepth 8000
open Go.RowKit
section
variable {P : Program} {ev : Operand → Value} {o : Oper} {w w' : World} {x y : Operand} {ty t : TypeId}
/-- a struct is stored in the midst of a row -/
theorem xo_storeM {tt : TypeId} (g off : Nat) (old new : Array Value) (vs : List Value) (hg : w.heap[g]? = some (.cells old tt (0, 0))) (hn : (old.toList.take off ++ vs ++ old.toList.drop (off + vs.length)).toArray = new) (hl : off + vs.length ≤ old.size) (hs : (P.info? ty).map (·.size) = some vs.length) (h1 : ∀ v ∈ vs, v.oneCell' = true) (ho : o.op = .store ty x y) (hx : ev x = .pointer (some ⟨g, off, none⟩)) (hy : (ev y).cells = vs.toArray) :
  (execOp ev o).run P w = .ok .skip (w.setRow g new) := by
 have hst := run_storeCells_at P g off tt vs 0 old w hg (by omega) h1
 rw [Nat.add_zero] at hst
 cases hq : P.info? ty with
 | none => simp [hq] at hs
 | some inf =>
  have hsz : inf.size = vs.length := by simpa [hq] using hs
  unfold execOp
  simp only [ho, hx, Instr.storeAt, Instr.sureAddr, Sem.run_bind, Sem.run_pure, Result.andThen_ok, storeVar, sizeOf, typeInfo, run_program, hq, hsz, hy]
  simp only [List.append_assoc] at hn
  simp [hst, Sem.run_bind, hn]
theorem xs_eqT (a b : List UInt8) (h : a = b) (hu : P.underlying ty = some .string) (ho : o.op = .binOp .eql ty x y t) (hx : ev x = .string (sB a)) (hy : ev y = .string (sB b)) : (execOp ev o).run P w = .ok (.value (.bool true)) w := by rw [xs_eq a b hu ho hx hy, decide_eq_true h]
theorem xs_neF (a b : List UInt8) (h : a = b) (hu : P.underlying ty = some .string) (ho : o.op = .binOp .neq ty x y t) (hx : ev x = .string (sB a)) (hy : ev y = .string (sB b)) : (execOp ev o).run P w = .ok (.value (.bool false)) w := by rw [xs_ne a b hu ho hx hy, decide_eq_true h]; rfl
theorem xs_neT (a b : List UInt8) (h : ¬ a = b) (hu : P.underlying ty = some .string) (ho : o.op = .binOp .neq ty x y t) (hx : ev x = .string (sB a)) (hy : ev y = .string (sB b)) : (execOp ev o).run P w = .ok (.value (.bool true)) w := by rw [xs_ne a b hu ho hx hy, decide_eq_false h]; rfl
end
/-- an elder world, in which nothing lies -/
theorem base_world (w : World) : ∃ V : World, V.heap.size = 0 ∧ Below V.heap.size V w :=
 ⟨{ w with heap := #[] }, rfl, ⟨rfl, rfl, rfl, Nat.zero_le _, fun k hk => absurd hk (Nat.not_lt_zero _)⟩⟩
/-- only the blocks p and q may have changed -/
structure FarH (p q : Nat) (w w' : World) : Prop where
 size : w.heap.size ≤ w'.heap.size
 far : ∀ k o, k ≠ p → k ≠ q → w.heap[k]? = some o → w'.heap[k]? = some o
structure FarC (p q : Nat) (w w' : World) : Prop extends FarH p q w w' where
 os : w'.os = w.os
 tape : w'.tape = w.tape
 output : w'.output = w.output
section
variable {p q : Nat} {w w' w0 V : World}
theorem FarH.refl (p q : Nat) (w : World) : FarH p q w w := ⟨Nat.le_refl _, fun _ _ _ _ h => h⟩
theorem FarH.trans {w1 w2 : World} (h : FarH p q w0 w1) (k : FarH p q w1 w2) : FarH p q w0 w2 := ⟨Nat.le_trans h.size k.size, fun b o hp hq ho => k.far b o hp hq (h.far b o hp hq ho)⟩
theorem FarH.of_below (h : Below w.heap.size w w') : FarH p q w w' := ⟨h.size, fun _ _ _ _ ho => heap_keep ho h⟩
theorem FarH.keep (h : FarH p q w0 w) (hb : Below w.heap.size w w') : FarH p q w0 w' := h.trans (.of_below hb)
theorem FarH.store {b : Nat} (h : FarH p q w0 w) (hb : b = p ∨ b = q ∨ w0.heap.size ≤ b) (hs : w'.heap.size = w.heap.size) (hfar : ∀ k o, k ≠ b → w.heap[k]? = some o → w'.heap[k]? = some o) : FarH p q w0 w' :=
 ⟨by have := h.size; omega, fun k o hp hq ho => hfar k o (fun e => by
  subst e
  rcases hb with rfl | rfl | hb
  ·exact hp rfl
  ·exact hq rfl
  ·have := (Array.getElem?_eq_some_iff.1 ho).1
   omega) (h.far k o hp hq ho)⟩
theorem FarH.farC (h : FarH p q w0 w) (k : FarC p q w w') : FarH p q w0 w' := h.trans k.toFarH
theorem farc_mk (h : FarH p q w0 w) (h1 : Below V.heap.size V w0) (h2 : Below V.heap.size V w) : FarC p q w0 w :=
 ⟨h, h2.os.trans h1.os.symm, h2.tape.trans h1.tape.symm, h2.output.trans h1.output.symm⟩
theorem farc_bel (hV : V.heap.size = 0) (h : Below V.heap.size V w) (k : FarC p q w w') : Below V.heap.size V w' :=
 ⟨k.os.trans h.os, k.tape.trans h.tape, k.output.trans h.output, by rw [hV]; exact Nat.zero_le _, fun b hb => by rw [hV] at hb; exact absurd hb (Nat.not_lt_zero _)⟩
theorem own_farC {base : Nat} {e : TypeId} {size n : Nat} {v : Value} {cs : List Value} (h : w.ownsRow base e size v n cs) (hp : p < base) (hq : q < base) (k : FarH p q w w') : w'.ownsRow base e size v n cs := by
 refine ⟨h.1, ?_⟩
 rcases h.2 with hn | ⟨g, cap, cur, rfl, hbs, hgg, rest⟩
 ·exact .inl hn
 ·exact .inr ⟨g, cap, cur, rfl, hbs, k.far g _ (by omega) (by omega) hgg, rest⟩
theorem rng_farC {b off : Nat} {cs : List Value} (h : w.rangeAt b off cs) (hp : b ≠ p) (hq : b ≠ q) (k : FarH p q w w') : w'.rangeAt b off cs := fun j v hv => by
 have hc := h j v hv
 unfold World.cell? at hc ⊢
 cases ho : w.heap[b]? with
 | none => simp [ho] at hc
 | some o =>
  simp only [ho] at hc
  simp only [k.far b o hp hq ho]
  exact hc
theorem rng_store {b off g : Nat} {cs : List Value} (h : w.rangeAt b off cs) (hg : b ≠ g) (hfar : ∀ k o, k ≠ g → w.heap[k]? = some o → w'.heap[k]? = some o) : w'.rangeAt b off cs := fun j v hv => by
 have hc := h j v hv
 unfold World.cell? at hc ⊢
 cases ho : w.heap[b]? with
 | none => simp [ho] at hc
 | some o =>
  simp only [ho] at hc
  simp only [hfar b o hg ho]
  exact hc
end
end Go.Proofs.YtlicfidcfhbmpaaDoor.K
namespace Go.Proofs.YtlicfidcfhbmpaaDoor
open Go.RowKit Go.Proofs.YtlicfidcfhbmpaaDoor.K
/-- a condition in cells -/
def cdC (c : Qu.Cd) : List Value := [.int .i64 (c.col : Int), .int .i64 (c.lo : Int), .int .i64 (c.hi : Int)]
instance : Enc cdC 3 := ⟨fun _ => rfl, fun x u hu => by
 simp only [cdC, List.mem_cons, List.not_mem_nil, or_false] at hu
 rcases hu with rfl | rfl | rfl <;> rfl, by decide⟩
/-- the table of the columns -/
def Gc (w : World) : Prop := w.rangeAt 0 0 [.string (sB (Qu.nameN 0)), .int .i64 15, .string (sB (Qu.nameN 1)), .int .i64 255, .string (sB (Qu.nameN 2)), .int .i64 15, .string (sB (Qu.nameN 3)), .int .i64 255]
theorem Gc.keep {w w' : World} (h : Gc w) (hb : Below w.heap.size w w') : Gc w' := fun j v hv => cell_keep (h j v hv) hb
/-- the parser's state in memory -/
structure PSm (w : World) (bp bs : Nat) (s : List UInt8) (st : Qu.St) : Prop where
 sc : w.heap[bs]? = some (.cells #[.string (sB s), .int .i64 (st.pos : Int)] 66 (0, 0))
 pr : w.heap[bp]? = some (.cells #[.func (.func 41) #[.pointer (some ⟨bs, 0, none⟩)] #[], .int .i64 (st.tok.cls : Int), .string (sB st.tok.tx), .int .i64 (st.off : Int)] 72 (0, 0))
 ne : bp ≠ bs
 p1 : 1 ≤ bp
 s1 : 1 ≤ bs
theorem PSm.keep {w w' : World} {bp bs : Nat} {s : List UInt8} {st : Qu.St} (h : PSm w bp bs s st) (hb : Below w.heap.size w w') : PSm w' bp bs s st := ⟨heap_keep h.sc hb, heap_keep h.pr hb, h.ne, h.p1, h.s1⟩
theorem PSm.store {w w' : World} {bp bs b : Nat} {s : List UInt8} {st : Qu.St} (h : PSm w bp bs s st) (h1 : bp ≠ b) (h2 : bs ≠ b) (hfar : ∀ k o, k ≠ b → w.heap[k]? = some o → w'.heap[k]? = some o) : PSm w' bp bs s st := ⟨hfar _ _ h2 h.sc, hfar _ _ h1 h.pr, h.ne, h.p1, h.s1⟩
/-- a token as a value -/
def tkV (t : Qu.Tk) : Value := .agg #[.int .i64 (t.cls : Int), .string (sB t.tx)]
theorem tk_eqB (t u : Qu.Tk) : decide (t = u) = (decide (t.cls = u.cls) && decide (t.tx = u.tx)) := by
 cases t; cases u
 rw [Bool.eq_iff_iff]
 simp
section
variable {ev : Operand → Value} {o : Oper} {w : World} {x y : Operand} {t : TypeId}
theorem xt_eq (a b : Qu.Tk) (r : Bool) (h : decide (a = b) = r) (ho : o.op = .binOp .eql 70 x y t) (hx : ev x = tkV a) (hy : ev y = tkV b) : (execOp ev o).run Tryd.prog w = .ok (.value (.bool r)) w := by
 unfold execOp
 simp only [ho, hx, hy]
 rw [tk_eqB] at h
 subst h
 by_cases h1 : a.cls = b.cls
 ·by_cases h2 : a.tx = b.tx <;> simp [tkV, go_sem, Tryd.underlying70, Tryd.underlying68, Tryd.underlying9, h1, h2, ByteArray.toList_eq, sB_data]
 ·have h2 : ¬ (a.cls : Int) = (b.cls : Int) := by omega
  simp [tkV, go_sem, Tryd.underlying70, Tryd.underlying68, Tryd.underlying9, h1, h2]
theorem xt_ne (a b : Qu.Tk) (r : Bool) (h : (!decide (a = b)) = r) (ho : o.op = .binOp .neq 70 x y t) (hx : ev x = tkV a) (hy : ev y = tkV b) : (execOp ev o).run Tryd.prog w = .ok (.value (.bool r)) w := by
 unfold execOp
 simp only [ho, hx, hy]
 rw [tk_eqB] at h
 subst h
 by_cases h1 : a.cls = b.cls
 ·by_cases h2 : a.tx = b.tx <;> simp [tkV, go_sem, Tryd.underlying70, Tryd.underlying68, Tryd.underlying9, h1, h2, ByteArray.toList_eq, sB_data]
 ·have h2 : ¬ (a.cls : Int) = (b.cls : Int) := by omega
  simp [tkV, go_sem, Tryd.underlying70, Tryd.underlying68, Tryd.underlying9, h1, h2]
end
end Go.Proofs.YtlicfidcfhbmpaaDoor

