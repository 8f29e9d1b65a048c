/- Several texts in one: Qb, Qc, Qg, Qk, Qt, Qu, Qx, Qz, Ra, Rc, Ya, Yb, Yc, Yg, Yh, Yi, Yk, Yl, Ym, Yn. -/
import Derived.RangeFuncCalls
import Derived.Test.YtbecajihgbbgjaaDoorV02
import Derived.Deep.Cut
import Derived.Deep.CutRange
import Derived.Deep.RegionWith
import Derived.TacticsInMore
import Derived.LoopNIn
import Derived.LoopIn
import Derived.RangeFuncNested
import Derived.RangeFuncBound
import Derived.RangeFuncLeaves
import Derived.RangeFuncBox
import Derived.Shelf.RegionOpen
import Derived.Laws.EntriesVeiled
import Derived.Sort.CutIn
import Derived.Laws.BytesArg
import Derived.Laws.Strings
set_option linter.unusedVariables false
set_option linter.unusedSimpArgs false
set_option linter.unusedSectionVars false
namespace Go.Proofs.YtbecajihgbbgjaaDoor.K
set_option maxRecDepth 8000
open Go.RowKit
/-- a step of an iterator: nothing below N changes, no cells change -/
structure Abide (N : Nat) (A B : World) : Prop where
 below : Below N A B
 cells : ∀ (b : Nat) (o : Obj), A.heap[b]? = some o → o.isCells = true → B.heap[b]? = some o
theorem Abide.refl (N : Nat) (A : World) : Abide N A A := ⟨Below.refl _ _, fun _ _ h _ => h⟩
theorem Abide.trans {N : Nat} {A B C : World} (h : Abide N A B) (k : Abide N B C) : Abide N A C := ⟨h.below.trans k.below, fun b o ho hc => k.cells b o (h.cells b o ho hc) hc⟩
theorem Abide.mono {N M : Nat} {A B : World} (h : Abide N A B) (hM : M ≤ N) : Abide M A B := ⟨h.below.mono hM, h.cells⟩
theorem Abide.of_below {N : Nat} {A B : World} (h : Below A.heap.size A B) (hN : N ≤ A.heap.size) : Abide N A B := ⟨h.mono hN, fun _ _ ho _ => heap_keep ho h⟩
theorem Abide.cell {N : Nat} {A B : World} (h : Abide N A B) {p : Addr} {v : Value} (hc : A.cell? p = some v) : B.cell? p = some v := by
 have hlt := World.block_lt_of_cell? _ _ hc
 have ho := Array.getElem?_eq_getElem hlt
 have hcell : (A.heap[p.block]'hlt).isCells = true := by
  have := hc
  unfold World.cell? at this
  rw [ho] at this
  cases hh : A.heap[p.block]'hlt <;> rw [hh] at this <;> first | rfl | (simp at this)
 exact (World.cell?_of_block ((h.cells _ _ ho hcell).trans ho.symm)).trans hc
/-- what a round keeps for the iterator: whatever lies at or beyond N, but for cells -/
structure KeepI (N : Nat) (A B : World) : Prop where
 size : A.heap.size ≤ B.heap.size
 same : ∀ (b : Nat) (o : Obj), N ≤ b → A.heap[b]? = some o → Obj.isCells o = false → B.heap[b]? = some o
theorem KeepI.refl (N : Nat) (A : World) : KeepI N A A := ⟨Nat.le_refl _, fun _ _ _ h _ => h⟩
theorem KeepI.trans {N : Nat} {A B C : World} (h : KeepI N A B) (k : KeepI N B C) : KeepI N A C := ⟨Nat.le_trans h.size k.size, fun b o hb ho hd => k.same b o hb (h.same b o hb ho hd) hd⟩
theorem KeepI.mono {N M : Nat} {A B : World} (h : KeepI N A B) (hM : N ≤ M) : KeepI M A B := ⟨h.size, fun b o hb => h.same b o (by omega)⟩
theorem KeepI.of_below {N : Nat} {A B : World} (h : Below A.heap.size A B) : KeepI N A B := ⟨h.size, fun _ _ _ ho _ => heap_keep ho h⟩
theorem KeepI.setCell {N : Nat} {A : World} (p : Addr) (v : Value) (hp : p.block < N) : KeepI N A (A.setCell p v) :=
 ⟨by simp [World.setCell], fun b o hb ho _ => (Below.heap_setCell A p v b (by omega)).trans ho⟩
theorem KeepI.setRow {N x : Nat} {A : World} (cs : Array Value) (hx : x < N) : KeepI N A (A.setRow x cs) :=
 ⟨by simp [World.setRow], fun b o hb ho _ => by
  have : x ≠ b := by omega
  simp [World.setRow, Array.getElem?_modify, this]
  exact ho⟩
theorem KeepI.cell {N : Nat} {A B : World} (h : KeepI N A B) {p : Addr} {v : Value} (hp : N ≤ p.block) (hc : A.cell? p = some v) (hd : ∀ o, A.heap[p.block]? = some o → Obj.isCells o = false) : B.cell? p = some v := by
 have hlt := World.block_lt_of_cell? _ _ hc
 have ho := Array.getElem?_eq_getElem hlt
 exact (World.cell?_of_block ((h.same _ _ hp ho (hd _ ho)).trans ho.symm)).trans hc
/-- nothing but cells changes -/
structure Kin (A B : World) : Prop where
 size : A.heap.size ≤ B.heap.size
 same : ∀ (b : Nat) (o : Obj), A.heap[b]? = some o → o.isCells = false → B.heap[b]? = some o
theorem Kin.refl (A : World) : Kin A A := ⟨Nat.le_refl _, fun _ _ h _ => h⟩
theorem Kin.trans {A B C : World} (h : Kin A B) (k : Kin B C) : Kin A C := ⟨Nat.le_trans h.size k.size, fun b o ho hd => k.same b o (h.same b o ho hd) hd⟩
theorem Kin.of_below {A B : World} (h : Below A.heap.size A B) : Kin A B := ⟨h.size, fun _ _ ho _ => heap_keep ho h⟩
theorem Kin.keep {A B : World} (h : Kin A B) (N : Nat) : KeepI N A B := ⟨h.size, fun b o _ ho hd => h.same b o ho hd⟩
theorem Kin.far {A B : World} {g : Nat} {o : Obj} (hg : A.heap[g]? = some o) (hc : o.isCells = true) (hs : A.heap.size ≤ B.heap.size) (hfar : ∀ k o, k ≠ g → A.heap[k]? = some o → B.heap[k]? = some o) : Kin A B :=
 ⟨hs, fun b q hq hd => hfar b q (fun e => by subst e; rw [hg] at hq; injection hq with hq; subst hq; rw [hc] at hd; cases hd) hq⟩
theorem Kin.grown {A B : World} {base : Nat} {e : TypeId} {size n : Nat} {v : Value} {cs : List Value} (h : A.ownsRow base e size v n cs) (hg : A.grownBy B v.ownBlock) : Kin A B :=
 ⟨hg.size, fun b q hq hd => (hg.block b (Array.getElem?_eq_some_iff.1 hq).1 (fun he => by
  rcases h.2 with ⟨rfl, _⟩ | ⟨g, cap, cur, rfl, hb, hgg, _⟩
  ·cases he
  ·simp only [Value.ownBlock] at he
   injection he with he
   subst he
   rw [hgg] at hq
   injection hq with hq
   subst hq
   cases hd)).trans hq⟩
section
variable {P : Program} {Q : Exit → Act → World → Prop} {ops : Array Oper} {w : World} {n : Nat} {ty : TypeId} {x y : Operand}
end
theorem hOp_callA {P : Program} {o : Oper} {a : Act} {w : World} {K : Value → World → Prop} {fn : Func} (f : FuncId) (hf : P.funcs[f]? = some fn) (hname : (fn.name == "runtime.NumGoroutine") = false) (hb : fn.body.isNone = false) (x : Tmp) (xs : Array Operand) (lb : Array Value) (ts : Array TypeId) (ho : o.op = .call { callee := .value (.tmp x), args := xs, argTypes := ts })
  (hx : a.eval (.tmp x) = .func (.func f) #[] lb) (args : Array Value) (hargs : xs.map a.eval = args) (h : Calls P f (args ++ lb) w fun e w' => ∃ v, e = .returned v ∧ K v w') : hOp P o K a w := by
 unfold hOp execOp
 simp only [ho]
 have e : (do let d ← resolve a.eval { callee := .value (.tmp x), args := xs, argTypes := ts } o.type; invoke d.target d.args : Sem Next).run P w = .ok (.enter f (args ++ lb)) w := by
  have h1 : fn.name ≠ "runtime.NumGoroutine" := by simpa using hname
  have h2 : fn.body ≠ none := by
   intro e
   rw [e] at hb
   cases hb
  have hx' : a.tmps[x]?.getD undef = .func (.func f) #[] lb := by simpa [Act.eval] using hx
  subst hargs
  simp [resolve, Deferred.ofValue, invoke, go_sem, hx', callFunc, hf, h1, h2]
 rw [e]
 exact h
section
variable {P : Program}
end
section
variable {p : Nat} {F : Nat → Value → Prop} {w0 W : World} {T : Bool → World → Prop} {m m' : Nat → Bool} {vs : Nat → Value}
end
end Go.Proofs.YtbecajihgbbgjaaDoor.K

namespace Go.Proofs.YtbecajihgbbgjaaDoor
set_option maxRecDepth 8000
open Go.RowKit Go.Proofs.YtbecajihgbbgjaaDoor.K
/-- a reading -/
structure Rd where
 who : Int
 when_ : Int
 kind : Int
 value : Int
/-- a slice's head -/
structure Hd where
 A : Option Addr
 n : Nat
 c : Nat
/-- an operation on a stream -/
structure Opn where
 b0 : Nat
 b1 : Nat
 b2 : Nat
 back : Bool
def rdC (r : Rd) : List Value := [.int .i64 r.who, .int .i64 r.when_, .int .i64 r.kind, .int .i64 r.value]
def boC (b : Bool) : List Value := [.bool b]
def wdC (n : Nat) : List Value := [.int .u64 (n : Int)]
def byC (n : Nat) : List Value := [.int .u8 (n : Int)]
def hdC (h : Hd) : List Value := [.slice h.A h.n h.c]
def opC (o : Opn) : List Value := [.int .u8 (o.b0 : Int), .int .u8 (o.b1 : Int), .int .u8 (o.b2 : Int), .bool o.back]
instance : Enc rdC 4 := ⟨fun _ => rfl, fun x u hu => by simp only [rdC, List.mem_cons, List.not_mem_nil, or_false] at hu; rcases hu with rfl | rfl | rfl | rfl <;> rfl, by omega⟩
instance : Enc boC 1 := ⟨fun _ => rfl, fun x u hu => by simp only [boC, List.mem_cons, List.not_mem_nil, or_false] at hu; subst hu; rfl, by omega⟩
instance : Enc wdC 1 := ⟨fun _ => rfl, fun x u hu => by simp only [wdC, List.mem_cons, List.not_mem_nil, or_false] at hu; subst hu; rfl, by omega⟩
instance : Enc byC 1 := ⟨fun _ => rfl, fun x u hu => by simp only [byC, List.mem_cons, List.not_mem_nil, or_false] at hu; subst hu; rfl, by omega⟩
instance : Enc hdC 1 := ⟨fun _ => rfl, fun x u hu => by simp only [hdC, List.mem_cons, List.not_mem_nil, or_false] at hu; subst hu; rfl, by omega⟩
instance : Enc opC 4 := ⟨fun _ => rfl, fun x u hu => by simp only [opC, List.mem_cons, List.not_mem_nil, or_false] at hu; rcases hu with rfl | rfl | rfl | rfl <;> rfl, by omega⟩
/-- cells of a list -/
abbrev fl {α : Type} (E : α → List Value) (xs : List α) : List Value := xs.flatMap E
def fldI (r : Rd) : Nat → Int
 | 0 => r.who
 | 1 => r.when_
 | 2 => r.kind
 | _ => r.value
def widN : Nat → Nat
 | 0 => 4
 | 2 => 4
 | _ => 8
/-- field j lies within its width -/
def fokB (r : Rd) (j : Nat) : Bool := decide (0 ≤ fldI r j ∧ fldI r j < ((2 ^ widN j : Nat) : Int))
def vR (r : Rd) : Bool := fokB r 0 && fokB r 1 && fokB r 2 && fokB r 3
theorem vR_iff {r : Rd} : vR r = true ↔ (0 ≤ r.who ∧ r.who < 16) ∧ (0 ≤ r.when_ ∧ r.when_ < 256) ∧ (0 ≤ r.kind ∧ r.kind < 16) ∧ (0 ≤ r.value ∧ r.value < 256) := by
 simp only [vR, fokB, fldI, widN, Bool.and_eq_true, decide_eq_true_eq]
 constructor
 ·rintro ⟨⟨⟨h0, h1⟩, h2⟩, h3⟩
  exact ⟨⟨h0.1, by have := h0.2; omega⟩, ⟨h1.1, by have := h1.2; omega⟩, ⟨h2.1, by have := h2.2; omega⟩, h3.1, by have := h3.2; omega⟩
 ·rintro ⟨h0, h1, h2, h3⟩
  exact ⟨⟨⟨⟨h0.1, by have := h0.2; omega⟩, h1.1, by have := h1.2; omega⟩, h2.1, by have := h2.2; omega⟩, h3.1, by have := h3.2; omega⟩
/-- the reading of three bytes -/
def decR (a b c : Nat) : Rd := ⟨((a % 16 : Nat) : Int), (b : Int), ((a / 16 : Nat) : Int), (c : Int)⟩
theorem vR_dec {a b c : Nat} (ha : a < 256) (hb : b < 256) (hc : c < 256) : vR (decR a b c) = true := by
 rw [vR_iff]
 simp only [decR]
 omega
/-- a stream: readings, and which are gone -/
def opS (most : Nat) (s : List Rd × List Bool) (o : Opn) : List Rd × List Bool :=
 if o.back then (if 0 < s.1.length then (if s.2.getD (o.b0 % s.1.length) false then s else (s.1, s.2.set (o.b0 % s.1.length) true)) else s)
 else if s.1.length < most then (s.1 ++ [decR o.b0 o.b1 o.b2], s.2 ++ [false]) else s
/-- what holds of such a stream -/
structure StO (most : Nat) (rs : List Rd) (gs : List Bool) : Prop where
 same : gs.length = rs.length
 most : rs.length ≤ most
 ok : ∀ r ∈ rs, vR r = true
theorem StO.op {most : Nat} {s : List Rd × List Bool} (h : StO most s.1 s.2) (o : Opn) (h0 : o.b0 < 256) (h1 : o.b1 < 256) (h2 : o.b2 < 256) : StO most (opS most s o).1 (opS most s o).2 := by
 unfold opS
 split
 ·split
  ·split
   ·exact h
   ·exact ⟨by simp [h.same], h.most, h.ok⟩
  ·exact h
 ·split
  ·next hl =>
   refine ⟨by simp [h.same], by simp; omega, fun r hr => ?_⟩
   rcases List.mem_append.1 hr with hr | hr
   ·exact h.ok r hr
   ·rw [List.mem_singleton] at hr
    subst hr
    exact vR_dec h0 h1 h2
  ·exact h
theorem StO.nil (most : Nat) : StO most [] [] := ⟨rfl, Nat.zero_le _, fun r hr => by cases hr⟩
end Go.Proofs.YtbecajihgbbgjaaDoor

namespace Go.Proofs.YtbecajihgbbgjaaDoor
set_option maxRecDepth 8000
open Go.RowKit Go.Proofs.YtbecajihgbbgjaaDoor.K
/-- blocks of the call's own that hold columns -/
structure RowsU (w : World) (t : TypeId) (base : Nat) (bs : List Nat) (xss : List (List Nat)) : Prop where
 len : bs.length = xss.length
 ge : ∀ b ∈ bs, base ≤ b
 nd : bs.Nodup
 row : ∀ (i b : Nat) (xs : List Nat), bs[i]? = some b → xss[i]? = some xs → RowG wdC w b t xs
section
variable {w w' : World} {t : TypeId} {base : Nat} {bs : List Nat} {xss : List (List Nat)}
theorem RowsU.keep (h : RowsU w t base bs xss) (hb : Below w.heap.size w w') : RowsU w' t base bs xss := ⟨h.len, h.ge, h.nd, fun i b xs hi hx => (h.row i b xs hi hx).keep hb⟩
theorem RowsU.far (h : RowsU w t base bs xss) {g : Nat} (hg : g ∉ bs) (hfar : ∀ k o, k ≠ g → w.heap[k]? = some o → w'.heap[k]? = some o) : RowsU w' t base bs xss :=
 ⟨h.len, h.ge, h.nd, fun i b xs hi hx => hfar b _ (fun e => hg (by rw [← e]; exact List.mem_of_getElem? hi)) (h.row i b xs hi hx)⟩
theorem RowsU.lt (h : RowsU w t base bs xss) : ∀ b ∈ bs, b < w.heap.size := fun b hb => by
 obtain ⟨i, hi, rfl⟩ := List.mem_iff_getElem.1 hb
 exact (h.row i _ _ (List.getElem?_eq_getElem hi) (List.getElem?_eq_getElem (by rw [← h.len]; exact hi))).lt
theorem RowsU.push (h : RowsU w t base bs xss) {b : Nat} {xs : List Nat} (hr : RowG wdC w b t xs) (hge : base ≤ b) (hn : b ∉ bs) : RowsU w t base (bs ++ [b]) (xss ++ [xs]) :=
 ⟨by simp [h.len], fun c hc => by rcases List.mem_append.1 hc with hc | hc; exact h.ge c hc; rw [List.mem_singleton] at hc; subst hc; exact hge,
  List.nodup_append.2 ⟨h.nd, by simp, fun a ha c hc e => by rw [List.mem_singleton] at hc; subst hc e; exact hn ha⟩, fun i c ys hi hx => by
  rw [List.getElem?_append] at hi hx
  rw [h.len] at hi
  split at hi
  ·next hlt => rw [if_pos hlt] at hx; exact h.row i c ys hi hx
  ·next hlt =>
   rw [if_neg hlt] at hx
   have h0 : i - xss.length = 0 := by have := (List.getElem?_eq_some_iff.1 hi).1; simp at this; omega
   rw [h0] at hi hx
   simp at hi hx
   subst hi hx
   exact hr⟩
theorem RowsU.nil : RowsU w t base [] [] := ⟨rfl, fun b hb => (by cases hb), List.nodup_nil, fun i b xs h => (by simp at h)⟩
theorem RowsU.store (h : RowsU w t base bs xss) {c b : Nat} {ys : List Nat} (hc : bs[c]? = some b) (hr : RowG wdC w' b t ys) (hfar : ∀ k o, k ≠ b → w.heap[k]? = some o → w'.heap[k]? = some o) : RowsU w' t base bs (xss.set c ys) :=
 ⟨by simp [h.len], h.ge, h.nd, fun i d xs hi hx => by
  by_cases e : i = c
  ·subst e
   rw [hc] at hi
   injection hi with hi
   subst hi
   rw [List.getElem?_set_self (by rw [← h.len]; exact (List.getElem?_eq_some_iff.1 hc).1)] at hx
   injection hx with hx
   subst hx
   exact hr
  ·rw [List.getElem?_set_ne (Ne.symm e)] at hx
   refine hfar d _ (fun e2 => e ?_) (h.row i d xs hi hx)
   subst e2
   obtain ⟨h1, h2⟩ := List.getElem?_eq_some_iff.1 hi
   obtain ⟨h3, h4⟩ := List.getElem?_eq_some_iff.1 hc
   exact (List.getElem_inj h.nd).1 (h2.trans h4.symm)⟩
end
/-- columns that are read -/
structure Cols (w : World) (A : Option Addr) (n c : Nat) (hs : List Hd) (xss : List (List Nat)) : Prop where
 head : Sg hdC 1 w A n c hs
 len : hs.length = xss.length
 row : ∀ (i : Nat) (h : Hd) (xs : List Nat), hs[i]? = some h → xss[i]? = some xs → Sg wdC 1 w h.A h.n h.c xs
theorem Cols.keep {w w' : World} {A : Option Addr} {n c : Nat} {hs : List Hd} {xss : List (List Nat)} (h : Cols w A n c hs xss) (hb : Below w.heap.size w w') : Cols w' A n c hs xss :=
 ⟨h.head.keep hb, h.len, fun i d xs hi hx => (h.row i d xs hi hx).keep hb⟩
theorem fl_append {α : Type} (E : α → List Value) (xs ys : List α) : fl E (xs ++ ys) = fl E xs ++ fl E ys := List.flatMap_append ..
theorem own_rowkeep {w w' : World} {base b : Nat} {e u : TypeId} {size n : Nat} {v : Value} {cs : List Value} {ds : Array Value} (h : w.ownsRow base e size v n cs) (hg : w.grownBy w' v.ownBlock) (hb : w.heap[b]? = some (.cells ds u (0, 0))) (hne : u ≠ e) : w'.heap[b]? = some (.cells ds u (0, 0)) :=
 (hg.block b (xp_lt hb) (fun he => by
  rcases h.2 with ⟨rfl, _⟩ | ⟨g, cap, cur, rfl, hbs, hgg, _⟩
  ·cases he
  ·simp only [Value.ownBlock] at he
   injection he with he
   subst he
   rw [hgg] at hb
   injection hb with hb
   injection hb with _ hb2
   exact hne hb2.symm)).trans hb
theorem own_farT {w w' : World} {base b : Nat} {e u : TypeId} {size n : Nat} {v : Value} {cs : List Value} {ds : Array Value} (h : w.ownsRow base e size v n cs) (hb : w.heap[b]? = some (.cells ds u (0, 0))) (hne : u ≠ e) (hfar : ∀ k o, k ≠ b → w.heap[k]? = some o → w'.heap[k]? = some o) : w'.ownsRow base e size v n cs := by
 refine ⟨h.1, ?_⟩
 rcases h.2 with hn | ⟨g, cap, cur, rfl, hbs, hgg, rest⟩
 ·exact .inl hn
 ·exact .inr ⟨g, cap, cur, rfl, hbs, hfar g _ (fun e2 => by
   subst e2
   rw [hgg] at hb
   injection hb with hb
   injection hb with _ hb2
   exact hne hb2.symm) hgg, rest⟩
end Go.Proofs.YtbecajihgbbgjaaDoor

namespace Go.Proofs.YtbecajihgbbgjaaDoor.K
set_option maxRecDepth 8000
open Go.RowKit
/-- orders: taken first (it only looks), alone, or one of two -/
inductive OT where
 | nil : OT
 | q (i : Nat) (t : OT) : OT
 | one (i : Nat) (t : OT) : OT
 | fork (i : Nat) (t : OT) (j : Nat) (u : OT) : OT
def OT.len : OT → Nat
 | .nil => 0
 | .q _ t => t.len + 1
 | .one _ t => t.len + 1
 | .fork _ t _ _ => t.len + 1
section
variable {P : Program} {ops : Array Oper} {S : World → Prop} {Q : Exit → Act → World → Prop}
def wpOT (P : Program) (ops : Array Oper) (S : World → Prop) (Q : Exit → Act → World → Prop) : OT → Act → World → Prop
 | .nil, a, w => Q .normal a w
 | .q i t, a, w => ∃ o, ops[i]? = some o ∧ ∃ v, YieldsIf P ops S o v a ∧ wpOT P ops S Q t (a.put o.dst v) w
 | .one i t, a, w => ∃ o, ops[i]? = some o ∧ Region.wanted o (yielded ops a.tmps) = true ∧ hOp P o (fun v w' => S w' ∧ wpOT P ops S Q t (a.put o.dst v) w') a w
 | .fork i t j u, a, w => (∃ o, ops[i]? = some o ∧ Region.wanted o (yielded ops a.tmps) = true ∧ hOp P o (fun v w' => S w' ∧ wpOT P ops S Q t (a.put o.dst v) w') a w) ∧
   (∃ o, ops[j]? = some o ∧ Region.wanted o (yielded ops a.tmps) = true ∧ hOp P o (fun v w' => S w' ∧ wpOT P ops S Q u (a.put o.dst v) w') a w)
def okT (ops : Array Oper) : OT → Array Bool → Bool
 | .nil, m => (Region.ready .any ops m).isEmpty
 | .q i t, m => Region.free .any ops m i && (Region.ready .any ops m).contains i && okT ops t (m.setIfInBounds i true)
 | .one i t, m => (Region.ready .any ops m == [i]) && okT ops t (m.setIfInBounds i true)
 | .fork i t j u, m => (Region.ready .any ops m == [i, j]) && (t.len == u.len) && okT ops t (m.setIfInBounds i true) && okT ops u (m.setIfInBounds j true)
theorem wpAnyH_of_wpOT (hs : Region.noSelect ops = true) (hQ : ∀ c a (dt : Option Tmp) v w, Q (.panic c) (Act.put a dt v) w → Q (.panic c) a w) : ∀ (t : OT) (m : Array Bool) (a : Act) (w : World), okT ops t m = true → S w → wpOT P ops S Q t a w → wpAnyH P .any ops Q S t.len m a w
 | .nil, m, a, w, ho, hS, h => wpAnyH_done (by unfold okT at ho; simpa using ho) h _
 | .q i t, m, a, w, ho, hS, h => by
  unfold okT at ho
  rw [Bool.and_eq_true, Bool.and_eq_true] at ho
  obtain ⟨o, hi, v, hy, hk⟩ := h
  exact wpAnyH_take hi hs ho.1.1 ho.1.2 (fun c a w h => hQ c a _ _ w h) hy hS (wpAnyH_of_wpOT hs hQ t _ _ w ho.2 hS hk)
 | .one i t, m, a, w, ho, hS, h => by
  unfold okT at ho
  rw [Bool.and_eq_true] at ho
  obtain ⟨o, hi, hw, hk⟩ := h
  refine wpAnyH_all (rs := [i]) (by simpa using ho.1) (by simp) ?_
  intro j hj
  obtain rfl : j = i := by simpa using hj
  exact wpOp_of_hOp hi hw (hOp_mono (fun v w' hk => ⟨hk.1, wpAnyH_of_wpOT hs hQ t _ _ w' ho.2 hk.1 hk.2⟩) hk)
 | .fork i t j u, m, a, w, ho, hS, h => by
  unfold okT at ho
  rw [Bool.and_eq_true, Bool.and_eq_true, Bool.and_eq_true] at ho
  obtain ⟨⟨⟨h1, h2⟩, h3⟩, h4⟩ := ho
  have h2 : t.len = u.len := by simpa using h2
  obtain ⟨⟨o, hi, hw, hk⟩, ⟨o2, hi2, hw2, hk2⟩⟩ := h
  refine wpAnyH_all (rs := [i, j]) (by simpa using h1) (by simp) ?_
  intro q hq
  rcases List.mem_cons.1 hq with rfl | hq
  ·exact wpOp_of_hOp hi hw (hOp_mono (fun v w' hk => ⟨hk.1, wpAnyH_of_wpOT hs hQ t _ _ w' h3 hk.1 hk.2⟩) hk)
  ·obtain rfl : q = j := by simpa using hq
   exact wpOp_of_hOp hi2 hw2 (hOp_mono (fun v w' hk => ⟨hk.1, by have := wpAnyH_of_wpOT hs hQ u _ _ w' h4 hk.1 hk.2; rw [← h2] at this; exact this⟩) hk2)
theorem wp_ordT (S : World → Prop) (t : OT) {id : Nat} {a : Act} {w : World} {l : List Oper} (hm : P.follows .mixedOrders = true) (hs : Region.noSelect l.toArray = true) (hQ : ∀ c a (dt : Option Tmp) v w, Q (.panic c) (Act.put a dt v) w → Q (.panic c) a w)
  (hn : t.len = l.length) (ho : okT l.toArray t (Array.replicate l.length false) = true) (hS : S w.drew) (h : wpOT P l.toArray S Q t a w.drew) : (Code.region id l.toArray true).wp P Q a w := by
 refine wp_region_held (S := S) hm ?_
 have := wpAnyH_of_wpOT hs hQ t _ a w.drew ho hS h
 rw [hn] at this
 simpa using this
theorem wpOT_nil {a : Act} {w : World} (h : Q .normal a w) : wpOT P ops S Q .nil a w := h
theorem wpOT_q {i : Nat} {t : OT} {o : Oper} {l : List Oper} {a : Act} {w : World} (v : Value) (hi : l[i]? = some o) (hw : Region.wanted o (yielded l.toArray a.tmps) = true) (hr : ∀ w', S w' → (execOp a.eval o).run P w' = .ok (.value v) w') (h : wpOT P l.toArray S Q t (a.put o.dst v) w) : wpOT P l.toArray S Q (.q i t) a w :=
 ⟨o, by simpa using hi, v, .inl ⟨hw, hr⟩, h⟩
theorem wpOT_one {i : Nat} {t : OT} {o : Oper} {l : List Oper} {a : Act} {w : World} (hi : l[i]? = some o) (hw : Region.wanted o (yielded l.toArray a.tmps) = true) (h : hOp P o (fun v w' => S w' ∧ wpOT P l.toArray S Q t (a.put o.dst v) w') a w) : wpOT P l.toArray S Q (.one i t) a w :=
 ⟨o, by simpa using hi, hw, h⟩
theorem wpOT_fork {i j : Nat} {t u : OT} {a : Act} {w : World} (h1 : wpOT P ops S Q (.one i t) a w) (h2 : wpOT P ops S Q (.one j u) a w) : wpOT P ops S Q (.fork i t j u) a w := ⟨h1, h2⟩
end
section
variable {P : Program}
theorem hOp_val {o : Oper} {a : Act} {w : World} {K : Value → World → Prop} (v : Value) (hr : (execOp a.eval o).run P w = .ok (.value v) w) (h : K v w) : hOp P o K a w := by
 unfold hOp
 rw [hr]
 exact h
/-- a new variable -/
theorem hOp_new {o : Oper} {a : Act} {w : World} {K : Value → World → Prop} (z : Array Value) (t : TypeId) (hr : (execOp a.eval o).run P w = .ok (.value (.pointer (some ⟨w.heap.size, 0, none⟩))) (w.alloc (.cells z t)))
  (h : ∀ b W, w.heap.size ≤ b → W.heap[b]? = some (.cells z t (0, 0)) → Below w.heap.size w W → K (.pointer (some ⟨b, 0, none⟩)) W) : hOp P o K a w := by
 unfold hOp
 rw [hr]
 exact h _ _ (Nat.le_refl _) (heap_new w _) ((Below.refl _ _).alloc (Nat.le_refl _) _)
/-- a store of a whole row -/
theorem hOp_storeW {o : Oper} {a : Act} {w : World} {K : Value → World → Prop} (g : Nat) (old row : Array Value) (t : TypeId) (hg : w.heap[g]? = some (.cells old t (0, 0))) (hr : (execOp a.eval o).run P w = .ok .skip (w.setRow g row))
  (h : ∀ W, W.heap[g]? = some (.cells row t (0, 0)) → (∀ k o, k ≠ g → w.heap[k]? = some o → W.heap[k]? = some o) → (∀ B v0, B ≤ g → Below B v0 w → Below B v0 W) → W.heap.size = w.heap.size → K undef W) : hOp P o K a w := by
 unfold hOp
 rw [hr]
 refine h _ ?_ (fun k o hk h0 => ?_) (fun B v0 hB hb => bel_setRow hb hB _) (by simp [World.setRow])
 ·simp [World.setRow, Array.getElem?_modify, hg]
 ·simp [World.setRow, Array.getElem?_modify, Ne.symm hk, h0]
end
end Go.Proofs.YtbecajihgbbgjaaDoor.K
namespace Go.Proofs.YtbecajihgbbgjaaDoor
open Go.RowKit Go.Proofs.YtbecajihgbbgjaaDoor.K
section
variable {P : Program} {ev : Operand → Value} {o : Oper} {w : World} {x y : Operand} {t : TypeId}
end
end Go.Proofs.YtbecajihgbbgjaaDoor

namespace Go.Proofs.YtbecajihgbbgjaaDoor
set_option maxRecDepth 8000
open Go.RowKit Go.Proofs.YtbecajihgbbgjaaDoor.K
attribute [local irreducible] wpList wpQuiet
theorem RowsU.grown {w w' : World} {t : TypeId} {base b0 : Nat} {bs : List Nat} {xss : List (List Nat)} {e : TypeId} {size n : Nat} {v : Value} {cs : List Value} (h : RowsU w t base bs xss) (ho : w.ownsRow b0 e size v n cs) (hg : w.grownBy w' v.ownBlock) (hne : t ≠ e) : RowsU w' t base bs xss :=
 ⟨h.len, h.ge, h.nd, fun i b xs hi hx => own_rowkeep ho hg (h.row i b xs hi hx) hne⟩
end Go.Proofs.YtbecajihgbbgjaaDoor

namespace Go.Proofs.YtbecajihgbbgjaaDoor
set_option maxRecDepth 8000
open Go.RowKit Go.Proofs.YtbecajihgbbgjaaDoor.K
attribute [local irreducible] wpList wpQuiet
/-- own slices of words, under heads -/
structure OwnsU (w : World) (t : TypeId) (base : Nat) (hs : List Hd) (xss : List (List Nat)) : Prop where
 len : hs.length = xss.length
 row : ∀ (i : Nat) (h : Hd) (xs : List Nat), hs[i]? = some h → xss[i]? = some xs → xs.length = h.n ∧ w.ownsRow base t 1 (.slice h.A h.n h.c) h.n (fl wdC xs)
theorem OwnsU.keep {w w' : World} {t : TypeId} {base : Nat} {hs : List Hd} {xss : List (List Nat)} (h : OwnsU w t base hs xss) (hb : Below w.heap.size w w') : OwnsU w' t base hs xss := ⟨h.len, fun i d xs hi hx => ⟨(h.row i d xs hi hx).1, own_keep (h.row i d xs hi hx).2 hb⟩⟩
theorem own_growT {w w' : World} {b1 b2 : Nat} {e1 e2 : TypeId} {s1 s2 n1 n2 : Nat} {v1 v2 : Value} {c1 c2 : List Value} (h : w.ownsRow b1 e1 s1 v1 n1 c1) (ho : w.ownsRow b2 e2 s2 v2 n2 c2) (hg : w.grownBy w' v2.ownBlock) (hne : e1 ≠ e2) : w'.ownsRow b1 e1 s1 v1 n1 c1 := by
 refine ⟨h.1, ?_⟩
 rcases h.2 with hn | ⟨g, cap, cur, rfl, hbs, hgg, rest⟩
 ·exact .inl hn
 ·exact .inr ⟨g, cap, cur, rfl, hbs, own_rowkeep ho hg hgg hne, rest⟩
theorem OwnsU.grown {w w' : World} {t : TypeId} {base b0 : Nat} {hs : List Hd} {xss : List (List Nat)} {e : TypeId} {size n : Nat} {v : Value} {cs : List Value} (h : OwnsU w t base hs xss) (ho : w.ownsRow b0 e size v n cs) (hg : w.grownBy w' v.ownBlock) (hne : t ≠ e) : OwnsU w' t base hs xss :=
 ⟨h.len, fun i d xs hi hx => ⟨(h.row i d xs hi hx).1, own_growT (h.row i d xs hi hx).2 ho hg hne⟩⟩
theorem OwnsU.nil {w : World} {t : TypeId} {base : Nat} : OwnsU w t base [] [] := ⟨rfl, fun i h xs hi => by simp at hi⟩
theorem OwnsU.push {w : World} {t : TypeId} {base n c : Nat} {A : Option Addr} {hs : List Hd} {xss : List (List Nat)} {xs : List Nat} (h : OwnsU w t base hs xss) (ho : w.ownsRow base t 1 (.slice A n c) n (fl wdC xs)) (hl : xs.length = n) : OwnsU w t base (hs ++ [Hd.mk A n c]) (xss ++ [xs]) :=
 ⟨by simp [h.len], fun i d ys hi hx => by
  rw [List.getElem?_append] at hi hx
  rw [h.len] at hi
  split at hi
  ·next hlt => rw [if_pos hlt] at hx; exact h.row i d ys hi hx
  ·next hlt =>
   rw [if_neg hlt] at hx
   have h0 : i - xss.length = 0 := by have := (List.getElem?_eq_some_iff.1 hi).1; simp at this; omega
   rw [h0] at hi hx
   simp at hi hx
   subst hi hx
   exact ⟨hl, ho⟩⟩
theorem OwnsU.sg {w : World} {t : TypeId} {base : Nat} {hs : List Hd} {xss : List (List Nat)} (h : OwnsU w t base hs xss) {i : Nat} {d : Hd} {xs : List Nat} (hi : hs[i]? = some d) (hx : xss[i]? = some xs) : Sg wdC 1 w d.A d.n d.c xs := Sg.ownS (h.row i d xs hi hx).2
end Go.Proofs.YtbecajihgbbgjaaDoor

namespace Go.Proofs.YtbecajihgbbgjaaDoor.K
set_option maxRecDepth 8000
open Go.RowKit
section
variable {P : Program} {ev : Operand → Value} {o : Oper} {w : World} {x y z : Operand} {ty e : TypeId}
end
section
variable {α : Type} {E : α → List Value} {k : Nat} [hE : Enc E k] {w : World} {A : Option Addr} {n c : Nat} {xs : List α}
/-- a part of a slice, not empty -/
theorem Sg.cut {p q : Nat} (h : Sg E k w A n c xs) (hpq : p < q) (hq : q ≤ n) : Sg E k w (if c = p then A else A.map (·.add (p * k))) (q - p) (c - p) ((xs.drop p).take (q - p)) := by
 have hc := h.cap
 have ht := h.top
 rw [if_neg (by omega)]
 refine ⟨by rw [List.length_take, List.length_drop, h.len]; omega, by omega, by omega, fun e => ?_, fun i x hx => ?_⟩
 ·cases A with
  | none => have := h.nil rfl; omega
  | some a => cases e
 ·rw [List.getElem?_take] at hx
  split at hx
  ·rw [List.getElem?_drop] at hx
   obtain ⟨g, off, rfl, hr⟩ := h.at_ _ _ hx
   refine ⟨g, off + p * k, by simp [Addr.add_mid], ?_⟩
   rw [Nat.add_mul, ← Nat.add_assoc] at hr
   exact hr
  ·cases hx
end
end Go.Proofs.YtbecajihgbbgjaaDoor.K
namespace Go.Proofs.YtbecajihgbbgjaaDoor
open Go.RowKit Go.Proofs.YtbecajihgbbgjaaDoor.K
theorem Cols.cut {w : World} {A : Option Addr} {n c p q : Nat} {hs : List Hd} {xss : List (List Nat)} (h : Cols w A n c hs xss) (hpq : p < q) (hq : q ≤ n) : Cols w (if c = p then A else A.map (·.add (p * 1))) (q - p) (c - p) ((hs.drop p).take (q - p)) ((xss.drop p).take (q - p)) :=
 ⟨h.head.cut hpq hq, by simp [h.len], fun i d xs hi hx => by
  rw [List.getElem?_take] at hi hx
  split at hi
  ·next hlt =>
   rw [if_pos hlt] at hx
   rw [List.getElem?_drop] at hi hx
   exact h.row _ _ _ hi hx
  ·cases hi⟩
end Go.Proofs.YtbecajihgbbgjaaDoor

namespace Go.Proofs.YtbecajihgbbgjaaDoor.K
set_option maxRecDepth 8000
open Go.RowKit
section
variable {P : Program} {Q : Exit → Act → World → Prop} {ops : Array Oper} {S : World → Prop}
theorem wpAnyH_mono {S2 : World → Prop} (hS : ∀ w, S w → S2 w) : ∀ (n : Nat) (m : Array Bool) (a : Act) (w : World), wpAnyH P .any ops Q S n m a w → wpAnyH P .any ops Q S2 n m a w
 | 0, _, _, _, h => h
 | n + 1, _, _, _, h => ⟨h.1, fun i hi => wpOp_mono (fun a' w' h' => ⟨hS _ h'.1, wpAnyH_mono hS n _ a' w' h'.2⟩) (h.2 i hi)⟩
theorem OrdOK.drop {is : List Nat} : ∀ {pre done : List Nat}, OrdOK ops done (pre ++ is) → OrdOK ops (pre.reverse ++ done) is
 | [], _, h => h
 | p :: pre, done, h => by
  have h2 := OrdOK.drop (pre := pre) (OrdOK.tail h)
  rw [List.reverse_cons, List.append_assoc]
  exact h2
end
end Go.Proofs.YtbecajihgbbgjaaDoor.K

namespace Go.Proofs.YtbecajihgbbgjaaDoor.K
set_option maxRecDepth 8000
open Go.RowKit
section
variable {P : Program} {ops : Array Oper} {Q : Exit → Act → World → Prop}
def wpX (P : Program) (ops : Array Oper) (Q : Exit → Act → World → Prop) : OT → Act → World → Prop
 | .nil, a, w => Q .normal a w
 | .q i t, a, w => ∃ o, ops[i]? = some o ∧ ∃ v, YieldsIf P ops (fun W => Below w.heap.size w W) o v a ∧ wpX P ops Q t (a.put o.dst v) w
 | .one i t, a, w => ∃ o, ops[i]? = some o ∧ Region.wanted o (yielded ops a.tmps) = true ∧ hOp P o (fun v w' => Below w.heap.size w w' ∧ wpX P ops Q t (a.put o.dst v) w') a w
 | .fork i t j u, a, w => (∃ o, ops[i]? = some o ∧ Region.wanted o (yielded ops a.tmps) = true ∧ hOp P o (fun v w' => Below w.heap.size w w' ∧ wpX P ops Q t (a.put o.dst v) w') a w) ∧
   (∃ o, ops[j]? = some o ∧ Region.wanted o (yielded ops a.tmps) = true ∧ hOp P o (fun v w' => Below w.heap.size w w' ∧ wpX P ops Q u (a.put o.dst v) w') a w)
theorem wpAnyH_of_wpX (hs : Region.noSelect ops = true) (hQ : ∀ c a (dt : Option Tmp) v w, Q (.panic c) (Act.put a dt v) w → Q (.panic c) a w) : ∀ (t : OT) (m : Array Bool) (a : Act) (w : World), okT ops t m = true → wpX P ops Q t a w → wpAnyH P .any ops Q (fun W => Below w.heap.size w W) t.len m a w
 | .nil, m, a, w, ho, h => wpAnyH_done (by unfold okT at ho; simpa using ho) h _
 | .q i t, m, a, w, ho, h => by
  unfold okT at ho
  rw [Bool.and_eq_true, Bool.and_eq_true] at ho
  obtain ⟨o, hi, v, hy, hk⟩ := h
  exact wpAnyH_take hi hs ho.1.1 ho.1.2 (fun c a w h => hQ c a _ _ w h) hy (Below.refl _ _) (wpAnyH_of_wpX hs hQ t _ _ w ho.2 hk)
 | .one i t, m, a, w, ho, h => by
  unfold okT at ho
  rw [Bool.and_eq_true] at ho
  obtain ⟨o, hi, hw, hk⟩ := h
  refine wpAnyH_all (rs := [i]) (by simpa using ho.1) (by simp) ?_
  intro j hj
  obtain rfl : j = i := by simpa using hj
  exact wpOp_of_hOp hi hw (hOp_mono (fun v w' hk => ⟨hk.1, wpAnyH_mono (S := fun W => Below w'.heap.size w' W) (fun W (hW : Below w'.heap.size w' W) => hk.1.trans (hW.mono hk.1.size)) _ _ _ _ (wpAnyH_of_wpX hs hQ t _ _ w' ho.2 hk.2)⟩) hk)
 | .fork i t j u, m, a, w, ho, h => by
  unfold okT at ho
  rw [Bool.and_eq_true, Bool.and_eq_true, Bool.and_eq_true] at ho
  obtain ⟨⟨⟨h1, h2⟩, h3⟩, h4⟩ := ho
  have h2 : t.len = u.len := by simpa using h2
  obtain ⟨⟨o, hi, hw, hk⟩, ⟨o2, hi2, hw2, hk2⟩⟩ := h
  refine wpAnyH_all (rs := [i, j]) (by simpa using h1) (by simp) ?_
  intro q hq
  rcases List.mem_cons.1 hq with rfl | hq
  ·exact wpOp_of_hOp hi hw (hOp_mono (fun v w' hk => ⟨hk.1, wpAnyH_mono (S := fun W => Below w'.heap.size w' W) (fun W (hW : Below w'.heap.size w' W) => hk.1.trans (hW.mono hk.1.size)) _ _ _ _ (wpAnyH_of_wpX hs hQ t _ _ w' h3 hk.2)⟩) hk)
  ·obtain rfl : q = j := by simpa using hq
   exact wpOp_of_hOp hi2 hw2 (hOp_mono (fun v w' hk => ⟨hk.1, wpAnyH_mono (S := fun W => Below w'.heap.size w' W) (fun W (hW : Below w'.heap.size w' W) => hk.1.trans (hW.mono hk.1.size)) _ _ _ _ (by have := wpAnyH_of_wpX hs hQ u _ _ w' h4 hk.2; rw [← h2] at this; exact this)⟩) hk2)
theorem wp_ordX (t : OT) {id : Nat} {a : Act} {w : World} {l : List Oper} (hm : P.follows .mixedOrders = true) (hs : Region.noSelect l.toArray = true) (hQ : ∀ c a (dt : Option Tmp) v w, Q (.panic c) (Act.put a dt v) w → Q (.panic c) a w)
  (hn : t.len = l.length) (ho : okT l.toArray t (Array.replicate l.length false) = true) (h : ∀ V, Below w.heap.size w V → wpX P l.toArray Q t a V) : (Code.region id l.toArray true).wp P Q a w := by
 refine wp_region_held (S := fun W => Below w.drew.heap.size w.drew W) hm ?_
 have := wpAnyH_of_wpX hs hQ t _ a w.drew ho (h _ (Below.refl _ _).drew)
 rw [hn] at this
 simpa using this
theorem wpX_nil {a : Act} {w : World} (h : Q .normal a w) : wpX P ops Q .nil a w := h
theorem wpX_q {i : Nat} {t : OT} {o : Oper} {l : List Oper} {a : Act} {w : World} (v : Value) (hi : l[i]? = some o) (hw : Region.wanted o (yielded l.toArray a.tmps) = true) (hr : ∀ w', Below w.heap.size w w' → (execOp a.eval o).run P w' = .ok (.value v) w') (h : wpX P l.toArray Q t (a.put o.dst v) w) : wpX P l.toArray Q (.q i t) a w :=
 ⟨o, by simpa using hi, v, .inl ⟨hw, hr⟩, h⟩
theorem wpX_skip {i : Nat} {t : OT} {o : Oper} {l : List Oper} {a : Act} {w : World} (hi : l[i]? = some o) (hw : Region.wanted o (yielded l.toArray a.tmps) = false) (h : wpX P l.toArray Q t (a.put o.dst undef) w) : wpX P l.toArray Q (.q i t) a w :=
 ⟨o, by simpa using hi, undef, .inr ⟨hw, rfl⟩, h⟩
theorem wpX_one {i : Nat} {t : OT} {o : Oper} {l : List Oper} {a : Act} {w : World} (hi : l[i]? = some o) (hw : Region.wanted o (yielded l.toArray a.tmps) = true) (h : hOp P o (fun v w' => Below w.heap.size w w' ∧ wpX P l.toArray Q t (a.put o.dst v) w') a w) : wpX P l.toArray Q (.one i t) a w :=
 ⟨o, by simpa using hi, hw, h⟩
end
end Go.Proofs.YtbecajihgbbgjaaDoor.K

namespace Go.Proofs.YtbecajihgbbgjaaDoor.K
set_option maxRecDepth 8000
open Go.RowKit
def putL : List (Tmp × Value) → Act → Act
 | [], a => a
 | (t, v) :: l, a => putL l (a.put (some t) v)
section
variable {P : Program} {Q : Exit → Act → World → Prop}
def cutQ {α : Type} (D : α → List (Tmp × Value)) (F : α → World → Prop) (a : Act) : Exit → Act → World → Prop
 | .normal, a', w' => ∃ x, a' = putL (D x) a ∧ F x w'
 | _, _, _ => False
/-- what a region leaves is said once -/
theorem wp_cutP {α : Type} (D : α → List (Tmp × Value)) (F : α → World → Prop) {c : Code} {a : Act} {w : World} (h1 : c.wp P (cutQ D F a) a w) (h2 : ∀ x W, F x W → Q .normal (putL (D x) a) W) : c.wp P Q a w :=
 wp_mono h1 fun e a' w' h => by
  cases e with
  | normal => obtain ⟨x, rfl, hF⟩ := h; exact h2 x w' hF
  | _ => exact h.elim
variable {ops : Array Oper} {w0 : World}
end
section
variable {α : Type} {E : α → List Value} {k : Nat} [hE : Enc E k] {P : Program} {w : World} {e : TypeId}
end
end Go.Proofs.YtbecajihgbbgjaaDoor.K

namespace Go.Proofs.YtbecajihgbbgjaaDoor.K
set_option maxRecDepth 8000
open Go.RowKit
/-- the string of these bytes -/
def sB (l : List UInt8) : ByteArray := ⟨l.toArray⟩
theorem sB_of (s : ByteArray) : sB s.data.toList = s := by cases s; simp [sB]
section
variable {P : Program} {ev : Operand → Value} {o : Oper} {w : World} {x y : Operand} {ty t : TypeId}
end
end Go.Proofs.YtbecajihgbbgjaaDoor.K

namespace Qu
set_option maxRecDepth 8000
def isSp (b : UInt8) : Bool := decide (b.toNat = 32) || (decide (b.toNat = 9) || (decide (b.toNat = 13) || decide (b.toNat = 10)))
/-- a token: its class (0 end, 1 none, 2 word, 3 number, 4 dots, 5 equals) and its text -/
structure Tk where
 cls : Nat
 tx : List UInt8
 deriving DecidableEq
/-- the parser's state: the next token, its offset, the bytes that are read -/
structure St where
 tok : Tk
 off : Nat
 pos : Nat
 deriving DecidableEq
/-- a result, an error, the state behind -/
structure Rs (α : Type) where
 val : α
 err : Nat
 st : St
def nameN : Nat → List UInt8
 | 0 => [119, 104, 111]
 | 1 => [119, 104, 101, 110]
 | 2 => [107, 105, 110, 100]
 | _ => [118, 97, 108, 117, 101]
def maxN : Nat → Nat
 | 0 => 15
 | 1 => 255
 | 2 => 15
 | _ => 255
def kwN : Nat → List UInt8
 | 1 => [99, 111, 117, 110, 116]
 | 2 => [116, 111, 116, 97, 108]
 | 3 => [109, 111, 109, 101, 110, 116]
 | 4 => [103, 114, 111, 117, 112, 115]
 | 5 => [100, 105, 115, 116, 105, 110, 99, 116]
 | 6 => [115, 109, 97, 108, 108, 101, 115, 116]
 | _ => [112, 97, 105, 114, 115]
structure Cd where
 col : Nat
 lo : Nat
 hi : Nat
 deriving DecidableEq
structure Qy where
 kind : Nat
 col : Nat
 k : Nat
 fs : List (List Cd)
 deriving DecidableEq
def hasC (k : Nat) : Bool := decide (2 ≤ k) && decide (k ≤ 6)
def maxK : Nat → Nat
 | 3 => 6
 | 6 => 65536
 | _ => 0
def numF : Nat → Nat
 | 7 => 2
 | _ => 1
end Qu

namespace Go.Proofs.YtbecajihgbbgjaaDoor.K
set_option maxRecDepth 8000
open Go.RowKit
section
variable {P : Program} {ev : Operand → Value} {o : Oper} {w w' : World} {x y : Operand} {ty t : TypeId}
/-- a struct is stored in the midst of a row -/
theorem xo_storeM {tt : TypeId} (g off : Nat) (old new : Array Value) (vs : List Value) (hg : w.heap[g]? = some (.cells old tt (0, 0))) (hn : (old.toList.take off ++ vs ++ old.toList.drop (off + vs.length)).toArray = new) (hl : off + vs.length ≤ old.size) (hs : (P.info? ty).map (·.size) = some vs.length) (h1 : ∀ v ∈ vs, v.oneCell' = true) (ho : o.op = .store ty x y) (hx : ev x = .pointer (some ⟨g, off, none⟩)) (hy : (ev y).cells = vs.toArray) :
  (execOp ev o).run P w = .ok .skip (w.setRow g new) := by
 have hst := run_storeCells_at P g off tt vs 0 old w hg (by omega) h1
 rw [Nat.add_zero] at hst
 cases hq : P.info? ty with
 | none => simp [hq] at hs
 | some inf =>
  have hsz : inf.size = vs.length := by simpa [hq] using hs
  unfold execOp
  simp only [ho, hx, Instr.storeAt, Instr.sureAddr, Sem.run_bind, Sem.run_pure, Result.andThen_ok, storeVar, sizeOf, typeInfo, run_program, hq, hsz, hy]
  simp only [List.append_assoc] at hn
  simp [hst, Sem.run_bind, hn]
end
/-- only the blocks p and q may have changed -/
structure FarH (p q : Nat) (w w' : World) : Prop where
 size : w.heap.size ≤ w'.heap.size
 far : ∀ k o, k ≠ p → k ≠ q → w.heap[k]? = some o → w'.heap[k]? = some o
structure FarC (p q : Nat) (w w' : World) : Prop extends FarH p q w w' where
 os : w'.os = w.os
 tape : w'.tape = w.tape
 output : w'.output = w.output
section
variable {p q : Nat} {w w' w0 V : World}
theorem FarH.refl (p q : Nat) (w : World) : FarH p q w w := ⟨Nat.le_refl _, fun _ _ _ _ h => h⟩
theorem FarH.trans {w1 w2 : World} (h : FarH p q w0 w1) (k : FarH p q w1 w2) : FarH p q w0 w2 := ⟨Nat.le_trans h.size k.size, fun b o hp hq ho => k.far b o hp hq (h.far b o hp hq ho)⟩
theorem FarH.of_below (h : Below w.heap.size w w') : FarH p q w w' := ⟨h.size, fun _ _ _ _ ho => heap_keep ho h⟩
theorem FarH.keep (h : FarH p q w0 w) (hb : Below w.heap.size w w') : FarH p q w0 w' := h.trans (.of_below hb)
theorem FarH.store {b : Nat} (h : FarH p q w0 w) (hb : b = p ∨ b = q ∨ w0.heap.size ≤ b) (hs : w'.heap.size = w.heap.size) (hfar : ∀ k o, k ≠ b → w.heap[k]? = some o → w'.heap[k]? = some o) : FarH p q w0 w' :=
 ⟨by have := h.size; omega, fun k o hp hq ho => hfar k o (fun e => by
  subst e
  rcases hb with rfl | rfl | hb
  ·exact hp rfl
  ·exact hq rfl
  ·have := (Array.getElem?_eq_some_iff.1 ho).1
   omega) (h.far k o hp hq ho)⟩
end
end Go.Proofs.YtbecajihgbbgjaaDoor.K
namespace Go.Proofs.YtbecajihgbbgjaaDoor
open Go.RowKit Go.Proofs.YtbecajihgbbgjaaDoor.K
/-- a condition in cells -/
def cdC (c : Qu.Cd) : List Value := [.int .i64 (c.col : Int), .int .i64 (c.lo : Int), .int .i64 (c.hi : Int)]
instance : Enc cdC 3 := ⟨fun _ => rfl, fun x u hu => by
 simp only [cdC, List.mem_cons, List.not_mem_nil, or_false] at hu
 rcases hu with rfl | rfl | rfl <;> rfl, by decide⟩
/-- the table of the columns -/
def Gc (w : World) : Prop := w.rangeAt 1 0 [.string (sB (Qu.nameN 0)), .int .i64 15, .string (sB (Qu.nameN 1)), .int .i64 255, .string (sB (Qu.nameN 2)), .int .i64 15, .string (sB (Qu.nameN 3)), .int .i64 255]
theorem Gc.keep {w w' : World} (h : Gc w) (hb : Below w.heap.size w w') : Gc w' := fun j v hv => cell_keep (h j v hv) hb
section
variable {ev : Operand → Value} {o : Oper} {w : World} {x y : Operand} {t : TypeId}
end
end Go.Proofs.YtbecajihgbbgjaaDoor

namespace Go.Proofs.YtbecajihgbbgjaaDoor.K
set_option maxRecDepth 8000
open Go.RowKit
section
theorem getObjM {P : Program} {w : World} {r : Nat} {es : Array MapEntry} {clock : Nat} (hb : w.heap[r]? = some (.map es clock)) : (getObj r).run P w = .ok (.map es clock) w := by
 simp [getObj, Sem.run, hb]
theorem setObjM {P : Program} {w : World} {r : Nat} {es : Array MapEntry} {clock : Nat} (o : Obj) (hb : w.heap[r]? = some (.map es clock)) : (setObj r o).run P w = .ok () { w with heap := w.heap.setIfInBounds r o } := by
 simp [setObj, Sem.run, hb]
variable {P : Program} {ops : Array Oper} {Q : Exit → Act → World → Prop}
theorem checkKeyI {k : TypeId} (hk : P.underlying k = some (.int .i64)) (e : Bool) (n : Nat) (v : Int) (w : World) : (Instr.checkKey e (n + 1) k (.int .i64 v)).run P w = .ok () w := by
 unfold Instr.checkKey
 simp only [Sem.run_bind]
 rw [run_underlying hk, Result.andThen_ok]
 rfl
theorem wpList_mkmap {rest : List Oper} {o : Oper} {a : Act} {w : World} {ty : TypeId} (hw : Region.wanted o (yielded ops a.tmps) = true) (ho : o.op = .makeMap ty none)
  (h : ∀ b W, w.heap.size ≤ b → W.heap[b]? = some (.map ([] : List MapEntry).toArray 0) → Below w.heap.size w W → wpList P ops Q rest (a.put o.dst (.map (some b))) W) : wpList P ops Q (o :: rest) a w :=
 wpList_run hw (.map (some w.heap.size)) (w.alloc (.map #[] 0)) (by unfold execOp; simp [ho, Instr.makeMap, Sem.run_bind]) (h _ _ (Nat.le_refl _) (heap_new w _) ((Below.refl _ _).alloc (Nat.le_refl _) _))
set_option maxRecDepth 100000 in
theorem wpList_ins {rest : List Oper} {o : Oper} {a : Act} {w : World} {ty kt et : TypeId} {m k x : Operand} (hw : Region.wanted o (yielded ops a.tmps) = true) (b : Nat) (es : List MapEntry) (c : Nat) (kv : Int) (v : Value) (hb : w.heap[b]? = some (.map es.toArray c))
  (hn : Instr.findNow (.int .i64) (.int .i64 kv) es 0 = some none) (hu : P.underlying ty = some (.map kt et)) (hk : P.underlying kt = some (.int .i64)) (ho : o.op = .insert ty m k x) (hm : a.eval m = .map (some b)) (hk' : a.eval k = .int .i64 kv) (hx : a.eval x = v)
  (h : ∀ W, W.heap[b]? = some (.map (es ++ [MapEntry.mk (.int .i64 kv) v c]).toArray (c + 1)) → (∀ B v0, B ≤ b → Below B v0 w → Below B v0 W) → wpList P ops Q rest (a.put o.dst undef) W) : wpList P ops Q (o :: rest) a w := by
 have hlt := (Array.getElem?_eq_some_iff.1 hb).1
 refine wpList_run0 hw { w with heap := w.heap.setIfInBounds b (.map (es ++ [MapEntry.mk (.int .i64 kv) v c]).toArray (c + 1)) } ?_ (h _ ?_ (fun B v0 hB hbl => ?_))
 ·unfold execOp
  simp only [ho, hm, hk', hx, Instr.mapUpdate, Sem.run_bind]
  rw [run_underlying hu, Result.andThen_ok]
  simp only [Sem.run_bind, getObjM hb, Result.andThen_ok, checkKeyI hk, Instr.findKey, run_underlying hk, hn, Sem.run_pure]
  simp only [Array.push, List.toList_toArray] 
  rw [setObjM _ hb]
  simp [Result.andThen_ok]
 ·simp [hlt]
 ·refine ⟨hbl.os, hbl.tape, hbl.output, by simpa using hbl.size, fun j hj => ?_⟩
  rw [← hbl.block j hj]
  simp only [Array.getElem?_setIfInBounds]
  rw [if_neg (by omega)]
set_option maxRecDepth 100000 in
theorem xm_lookup {ev : Operand → Value} {o : Oper} {w : World} {ty kt et : TypeId} {m k : Operand} (b : Nat) (es : List MapEntry) (c : Nat) (kv : Int) (j : Nat) (v : Value) (hb : w.heap[b]? = some (.map es.toArray c))
  (hn : Instr.findNow (.int .i64) (.int .i64 kv) es 0 = some (some (j, v))) (hu : P.underlying ty = some (.map kt et)) (hk : P.underlying kt = some (.int .i64)) (ho : o.op = .lookup ty m k false) (hm : ev m = .map (some b)) (hk' : ev k = .int .i64 kv) : (execOp ev o).run P w = .ok (.value v) w := by
 unfold execOp
 simp only [ho, hm, hk', Instr.lookup, Sem.run_bind]
 rw [run_underlying hu, Result.andThen_ok]
 simp [Sem.run_bind, getObjM hb, Result.andThen_ok, checkKeyI hk, Instr.findKey, run_underlying hk, hn, Sem.run_pure]
set_option maxRecDepth 100000 in
theorem xm_miss {ev : Operand → Value} {o : Oper} {w : World} {ty kt et : TypeId} {m k : Operand} (b : Nat) (es : List MapEntry) (c : Nat) (kv : Int) (z : Value) (hb : w.heap[b]? = some (.map es.toArray c)) (hz : (zeroValue et).run P w = .ok z w)
  (hn : Instr.findNow (.int .i64) (.int .i64 kv) es 0 = some none) (hu : P.underlying ty = some (.map kt et)) (hk : P.underlying kt = some (.int .i64)) (ho : o.op = .lookup ty m k false) (hm : ev m = .map (some b)) (hk' : ev k = .int .i64 kv) : (execOp ev o).run P w = .ok (.value z) w := by
 unfold execOp
 simp only [ho, hm, hk', Instr.lookup, Sem.run_bind]
 rw [run_underlying hu, Result.andThen_ok]
 simp [Sem.run_bind, getObjM hb, Result.andThen_ok, checkKeyI hk, Instr.findKey, run_underlying hk, hn, Sem.run_pure, hz]
end
end Go.Proofs.YtbecajihgbbgjaaDoor.K
namespace Go.Proofs.YtbecajihgbbgjaaDoor
open Go.RowKit Go.Proofs.YtbecajihgbbgjaaDoor.K
def formV (i : Nat) : Value := .agg #[.string (sB (Qu.kwN i)), .bool (Qu.hasC i), .int .i64 (Qu.maxK i : Int), .int .i64 (Qu.numF i : Int)]
def formE (i : Nat) : MapEntry := ⟨.int .i64 (i : Int), formV i, i - 1⟩
def formsM : Obj := .map [formE 1, formE 2, formE 3, formE 4, formE 5, formE 6, formE 7].toArray 7
theorem forms_find (i : Nat) (h1 : 1 ≤ i) (h7 : i ≤ 7) : Instr.findNow (.int .i64) (.int .i64 (i : Int)) [formE 1, formE 2, formE 3, formE 4, formE 5, formE 6, formE 7] 0 = some (some (i - 1, formV i)) := by
 rcases i with _ | _ | _ | _ | _ | _ | _ | _ | i
 ·omega
 all_goals first | rfl | omega
theorem forms_miss (i : Int) (h : i < 1 ∨ 7 < i) : Instr.findNow (.int .i64) (.int .i64 i) [formE 1, formE 2, formE 3, formE 4, formE 5, formE 6, formE 7] 0 = some none := by
 have e : ∀ j : Nat, 1 ≤ j → j ≤ 7 → (i == ((j : Nat) : Int)) = false := fun j h1 h7 => by
  rw [beq_eq_false_iff_ne]
  omega
 simp only [Instr.findNow, Instr.sameNow, formE, e 1 (by omega) (by omega), e 2 (by omega) (by omega), e 3 (by omega) (by omega), e 4 (by omega) (by omega), e 5 (by omega) (by omega), e 6 (by omega) (by omega), e 7 (by omega) (by omega), if_true]
end Go.Proofs.YtbecajihgbbgjaaDoor

namespace Go.Proofs.YtbecajihgbbgjaaDoor
set_option maxRecDepth 8000
open Go.RowKit Go.Proofs.YtbecajihgbbgjaaDoor.K
attribute [local irreducible] wpList wpQuiet
set_option maxRecDepth 100000 in
set_option maxHeartbeats 16000000 in
theorem forms_any (w : World) : Calls Tryd.prog 41 #[] w fun e w' => ∃ b, e = .returned (.map (some b)) ∧ w.heap.size ≤ b ∧ w'.heap[b]? = some formsM ∧ Below w.heap.size w w' := by
 go_enter Tryd.func41, Tryd.ntmps41
 go_upto_region 1 with fail
 refine wp_region_lit ?_
 refine wpList_mkmap (by kernel_rfl) rfl ?_
 intro b X0 hge hm0 hB0
 simp only [ptr, Act.put, zA]
 refine zr (.agg #[.string (sB ([99, 111, 117, 110, 116])), .bool false, .int .i64 0, .int .i64 1]) X0 (by unfold execOp; go_simp <;> rfl) ?_
 simp only [Act.put, zA]
 refine wpList_ins (by kernel_rfl) b _ 0 1 (formV 1) hm0 rfl Tryd.underlying79 Tryd.underlying3 rfl rfl rfl rfl ?_
 intro X1 hm1 hl1
 have hB1 := hl1 _ _ hge hB0
 clear hl1 hm0 hB0
 simp only [ptr, Act.put, zA]
 refine zr (.agg #[.string (sB ([116, 111, 116, 97, 108])), .bool true, .int .i64 0, .int .i64 1]) X1 (by unfold execOp; go_simp <;> rfl) ?_
 simp only [Act.put, zA]
 refine wpList_ins (by kernel_rfl) b _ 1 2 (formV 2) hm1 rfl Tryd.underlying79 Tryd.underlying3 rfl rfl rfl rfl ?_
 intro X2 hm2 hl2
 have hB2 := hl2 _ _ hge hB1
 clear hl2 hm1 hB1
 simp only [ptr, Act.put, zA]
 refine zr (.agg #[.string (sB ([109, 111, 109, 101, 110, 116])), .bool true, .int .i64 6, .int .i64 1]) X2 (by unfold execOp; go_simp <;> rfl) ?_
 simp only [Act.put, zA]
 refine wpList_ins (by kernel_rfl) b _ 2 3 (formV 3) hm2 rfl Tryd.underlying79 Tryd.underlying3 rfl rfl rfl rfl ?_
 intro X3 hm3 hl3
 have hB3 := hl3 _ _ hge hB2
 clear hl3 hm2 hB2
 simp only [ptr, Act.put, zA]
 refine zr (.agg #[.string (sB ([103, 114, 111, 117, 112, 115])), .bool true, .int .i64 0, .int .i64 1]) X3 (by unfold execOp; go_simp <;> rfl) ?_
 simp only [Act.put, zA]
 refine wpList_ins (by kernel_rfl) b _ 3 4 (formV 4) hm3 rfl Tryd.underlying79 Tryd.underlying3 rfl rfl rfl rfl ?_
 intro X4 hm4 hl4
 have hB4 := hl4 _ _ hge hB3
 clear hl4 hm3 hB3
 simp only [ptr, Act.put, zA]
 refine zr (.agg #[.string (sB ([100, 105, 115, 116, 105, 110, 99, 116])), .bool true, .int .i64 0, .int .i64 1]) X4 (by unfold execOp; go_simp <;> rfl) ?_
 simp only [Act.put, zA]
 refine wpList_ins (by kernel_rfl) b _ 4 5 (formV 5) hm4 rfl Tryd.underlying79 Tryd.underlying3 rfl rfl rfl rfl ?_
 intro X5 hm5 hl5
 have hB5 := hl5 _ _ hge hB4
 clear hl5 hm4 hB4
 simp only [ptr, Act.put, zA]
 refine zr (.agg #[.string (sB ([115, 109, 97, 108, 108, 101, 115, 116])), .bool true, .int .i64 65536, .int .i64 1]) X5 (by unfold execOp; go_simp <;> rfl) ?_
 simp only [Act.put, zA]
 refine wpList_ins (by kernel_rfl) b _ 5 6 (formV 6) hm5 rfl Tryd.underlying79 Tryd.underlying3 rfl rfl rfl rfl ?_
 intro X6 hm6 hl6
 have hB6 := hl6 _ _ hge hB5
 clear hl6 hm5 hB5
 simp only [ptr, Act.put, zA]
 refine zr (.agg #[.string (sB ([112, 97, 105, 114, 115])), .bool false, .int .i64 0, .int .i64 2]) X6 (by unfold execOp; go_simp <;> rfl) ?_
 simp only [Act.put, zA]
 refine wpList_ins (by kernel_rfl) b _ 6 7 (formV 7) hm6 rfl Tryd.underlying79 Tryd.underlying3 rfl rfl rfl rfl ?_
 intro X7 hm7 hl7
 have hB7 := hl7 _ _ hge hB6
 clear hl7 hm6 hB6
 simp only [ptr, Act.put, zA]
 refine zr (.map (some b)) X7 rfl ?_
 simp only [Act.put, zA]
 refine zr (.map (some b)) X7 rfl ?_
 simp only [Act.put, zA]
 refine wpList_nil ?_
 go_wp2_with fail
 go_ret
 exact ⟨b, rfl, hge, hm7, hB7⟩
end Go.Proofs.YtbecajihgbbgjaaDoor

namespace Go.Proofs.YtbecajihgbbgjaaDoor
set_option maxRecDepth 8000
open Go.RowKit Go.Proofs.YtbecajihgbbgjaaDoor.K
attribute [local irreducible] wpList wpQuiet
theorem xc_iad {ev : Operand → Value} {o : Oper} {w : World} {x y : Operand} (i : Nat) (hi : i < 4) (ho : o.op = .indexAddr 97 x y) (hx : ev x = .pointer (some ⟨1, 0, none⟩)) (hy : ev y = .int .i64 (i : Int)) :
  (execOp ev o).run Tryd.prog w = .ok (.value (.pointer (some ⟨1, i * 2, none⟩))) w := by
 unfold execOp
 simp only [ho, hx, hy]
 rcases i with _ | _ | _ | _ | i
 ·rfl
 ·rfl
 ·rfl
 ·rfl
 ·omega
theorem Gc.max {w : World} (h : Gc w) (i : Nat) (hi : i < 4) : w.cell? ⟨1, i * 2 + 1, none⟩ = some (.int .i64 (Qu.maxN i : Int)) := by
 rcases i with _ | _ | _ | _ | i
 ·exact h 1 _ rfl
 ·exact h 3 _ rfl
 ·exact h 5 _ rfl
 ·exact h 7 _ rfl
 ·omega
end Go.Proofs.YtbecajihgbbgjaaDoor

namespace Go.Proofs.YtbecajihgbbgjaaDoor
set_option maxRecDepth 8000
open Go.RowKit Go.Proofs.YtbecajihgbbgjaaDoor.K
attribute [local irreducible] wpList wpQuiet
/-- filters that lie in own slices, under heads -/
structure OwnsC (w : World) (t : TypeId) (base : Nat) (hs : List Hd) (fs : List (List Qu.Cd)) : Prop where
 len : hs.length = fs.length
 row : ∀ (i : Nat) (h : Hd) (xs : List Qu.Cd), hs[i]? = some h → fs[i]? = some xs → xs.length = h.n ∧ w.ownsRow base t 3 (.slice h.A h.n h.c) h.n (fl cdC xs)
section
variable {w w' : World} {t : TypeId} {base : Nat} {hs : List Hd} {fs : List (List Qu.Cd)}
theorem OwnsC.keep (h : OwnsC w t base hs fs) (hb : Below w.heap.size w w') : OwnsC w' t base hs fs := ⟨h.len, fun i d xs hi hx => ⟨(h.row i d xs hi hx).1, own_keep (h.row i d xs hi hx).2 hb⟩⟩
theorem OwnsC.grown {b0 : Nat} {e : TypeId} {size n : Nat} {v : Value} {cs : List Value} (h : OwnsC w t base hs fs) (ho : w.ownsRow b0 e size v n cs) (hg : w.grownBy w' v.ownBlock) (hne : t ≠ e) : OwnsC w' t base hs fs :=
 ⟨h.len, fun i d xs hi hx => ⟨(h.row i d xs hi hx).1, own_growT (h.row i d xs hi hx).2 ho hg hne⟩⟩
theorem OwnsC.nil : OwnsC w t base [] [] := ⟨rfl, fun i h xs hi => by simp at hi⟩
theorem OwnsC.push {n c : Nat} {A : Option Addr} {xs : List Qu.Cd} (h : OwnsC w t base hs fs) (ho : w.ownsRow base t 3 (.slice A n c) n (fl cdC xs)) (hl : xs.length = n) : OwnsC w t base (hs ++ [Hd.mk A n c]) (fs ++ [xs]) :=
 ⟨by simp [h.len], fun i d ys hi hx => by
  rw [List.getElem?_append] at hi hx
  rw [h.len] at hi
  split at hi
  ·next hlt => rw [if_pos hlt] at hx; exact h.row i d ys hi hx
  ·next hlt =>
   rw [if_neg hlt] at hx
   have h0 : i - fs.length = 0 := by have := (List.getElem?_eq_some_iff.1 hi).1; simp at this; omega
   rw [h0] at hi hx
   simp at hi hx
   subst hi hx
   exact ⟨hl, ho⟩⟩
theorem OwnsC.sg (h : OwnsC w t base hs fs) {i : Nat} {d : Hd} {xs : List Qu.Cd} (hi : hs[i]? = some d) (hx : fs[i]? = some xs) : Sg cdC 3 w d.A d.n d.c xs := Sg.ownS (h.row i d xs hi hx).2
end
/-- the filters of a query, own -/
def FsOwn (w : World) (base : Nat) (v : Value) (fs : List (List Qu.Cd)) : Prop := ∃ A c hs, v = .slice A fs.length c ∧ w.ownsRow base 44 1 (.slice A fs.length c) fs.length (fl hdC hs) ∧ OwnsC w 49 base hs fs
theorem own_nil {w : World} {base : Nat} {e : TypeId} {size : Nat} : w.ownsRow base e size (.slice none 0 0) 0 [] := ⟨by simp, .inl ⟨rfl, rfl⟩⟩
section
variable {s : List UInt8} {n : Nat} {fs : List (List Qu.Cd)} {st : Qu.St} {c : Qu.Rs (List Qu.Cd)}
end
end Go.Proofs.YtbecajihgbbgjaaDoor

namespace Go.Proofs.YtbecajihgbbgjaaDoor.K
set_option maxRecDepth 8000
open Go.RowKit
section
variable {P : Program} {ops : Array Oper} {S : World → Prop} {Q : Exit → Act → World → Prop} {m : Nat}
/-- as okT, the operation m being the last -/
def okM (ops : Array Oper) (m : Nat) : OT → Array Bool → Bool
 | .nil, l => Region.ready .any ops l == [m]
 | .q i t, l => decide (i < m) && (ops[i]?.all stillOp) && Region.free .any ops l i && (Region.ready .any ops l).contains i && okM ops m t (l.setIfInBounds i true)
 | .one i t, l => decide (i < m) && (ops[i]?.all fun o => !stillOp o) && (Region.ready .any ops l == [i]) && okM ops m t (l.setIfInBounds i true)
 | .fork i t j u, l => decide (i < m) && decide (j < m) && (ops[i]?.all fun o => !stillOp o) && (ops[j]?.all fun o => !stillOp o) && (Region.ready .any ops l == [i, j]) && (t.len == u.len) && okM ops m t (l.setIfInBounds i true) && okM ops m u (l.setIfInBounds j true)
theorem wpT_of_OT (hz : ops.size = m + 1) (hs : Region.sinkB .any ops m = true) (hcb : Region.chainB .any ops m = true) (hsel : Region.noSelect ops = true) : ∀ (t : OT) (l : Array Bool) (a : Act) (w : World), HeadInv .any ops m l → S w → okM ops m t l = true →
  wpOT P ops S (fun _ a w => mOp P ops m (fun a w => Q .normal a w) a w) t a w → wpT P ops S m Q (t.len + 1) l a w
 | .nil, l, a, w, inv, hS, ho, h => by
  unfold okM at ho
  have hr : Region.ready .any ops l = [m] := by simpa using ho
  refine ⟨fun e => (by rw [hr] at e; cases e), fun i hi => ?_⟩
  have hi' := hi
  rw [hr] at hi
  obtain rfl : i = m := by simpa using hi
  rw [tOp_eq]
  obtain ⟨om, hom, hw, hh⟩ := h
  exact ⟨om, hom, hw, hOp_mono (fun v w' hq => ⟨none_left hz hs hcb inv hi', hq⟩) hh⟩
 | .q i t, l, a, w, inv, hS, ho, h => by
  unfold okM at ho
  simp only [Bool.and_eq_true, decide_eq_true_eq] at ho
  obtain ⟨⟨⟨⟨him, hst⟩, hf⟩, hrd⟩, ho⟩ := ho
  obtain ⟨o, hi, v, hy, hk⟩ := h
  have hr : i ∈ Region.ready .any ops l := by simpa using hrd
  rw [hi] at hst
  have hst : stillOp o = true := by simpa using hst
  refine wpT_first hz hs hcb him hi (Region.noSelect_spec hsel) (t.len + 1) l a w inv hS (Region.free_spec hi hf) (fun e => by rw [hst] at e; cases e) hr ?_
  unfold sOp
  rw [hi]
  exact .inl ⟨.inl hst, v, hy, wpT_of_OT hz hs hcb hsel t _ _ w (inv.set hr him) hS ho hk⟩
 | .one i t, l, a, w, inv, hS, ho, h => by
  unfold okM at ho
  simp only [Bool.and_eq_true, decide_eq_true_eq] at ho
  obtain ⟨⟨⟨him, hst⟩, hrd⟩, ho⟩ := ho
  obtain ⟨o, hi, hw, hk⟩ := h
  have hr : Region.ready .any ops l = [i] := by simpa using hrd
  rw [hi] at hst
  have hst : stillOp o = false := by simpa using hst
  refine ⟨fun e => (by rw [hr] at e; cases e), fun j hj => ?_⟩
  have hj' := hj
  rw [hr] at hj
  obtain rfl : j = i := by simpa using hj
  rw [tOp_ne (by omega)]
  unfold sOp
  rw [hi]
  exact .inr ⟨not_quiet hst hw, hOp_mono (fun v w' hq => ⟨hq.1, wpT_of_OT hz hs hcb hsel t _ _ w' (inv.set hj' him) hq.1 ho hq.2⟩) hk⟩
 | .fork i t j u, l, a, w, inv, hS, ho, h => by
  unfold okM at ho
  simp only [Bool.and_eq_true, decide_eq_true_eq] at ho
  obtain ⟨⟨⟨⟨⟨⟨⟨him, hjm⟩, hsi⟩, hsj⟩, hrd⟩, hlen⟩, h1⟩, h2⟩ := ho
  obtain ⟨⟨o, hi, hw, hk⟩, ⟨o2, hi2, hw2, hk2⟩⟩ := h
  have hr : Region.ready .any ops l = [i, j] := by simpa using hrd
  have hlen : t.len = u.len := by simpa using hlen
  rw [hi] at hsi
  rw [hi2] at hsj
  have hsi : stillOp o = false := by simpa using hsi
  have hsj : stillOp o2 = false := by simpa using hsj
  refine ⟨fun e => (by rw [hr] at e; cases e), fun q hq => ?_⟩
  have hq' := hq
  rw [hr] at hq
  rcases List.mem_cons.1 hq with rfl | hq
  ·rw [tOp_ne (by omega)]
   unfold sOp
   rw [hi]
   exact .inr ⟨not_quiet hsi hw, hOp_mono (fun v w' hq => ⟨hq.1, wpT_of_OT hz hs hcb hsel t _ _ w' (inv.set hq' him) hq.1 h1 hq.2⟩) hk⟩
  ·obtain rfl : q = j := by simpa using hq
   rw [tOp_ne (by omega)]
   unfold sOp
   rw [hi2]
   exact .inr ⟨not_quiet hsj hw2, hOp_mono (fun v w' hq => ⟨hq.1, by have := wpT_of_OT hz hs hcb hsel u _ _ w' (inv.set hq' hjm) hq.1 h2 hq.2; rw [← hlen] at this; exact this⟩) hk2⟩
theorem wp_ordM (m : Nat) (t : OT) {id : Nat} {a : Act} {w : World} {l : List Oper} (hm : P.follows .mixedOrders = true) (hsel : Region.noSelect l.toArray = true) (hz : l.length = m + 1) (hl : t.len = m) (hs : Region.sinkB .any l.toArray m = true) (hcb : Region.chainB .any l.toArray m = true) (ho : okM l.toArray m t (Array.replicate l.length false) = true)
  (h : ∀ V, Below w.heap.size w V → wpOT P l.toArray (fun X => Below V.heap.size V X) (fun _ a w => mOp P l.toArray m (fun a w => Q .normal a w) a w) t a V) : (Code.region id l.toArray true).wp P Q a w := by
 have inv0 : HeadInv .any l.toArray m (Array.replicate l.toArray.size false) :=
  ⟨by simp, fun j oj _ hl => (by rw [getD_replicate_false] at hl; cases hl), fun t _ ht => getD_in (by simpa using ht) (getD_replicate_false _ _)⟩
 refine wp_region_any hm (wpAny_of_wpT (S := fun X => Below w.drew.heap.size w.drew X) (m := m) (by simpa using hz) hs hcb _ _ _ _ inv0 (Below.refl _ _) ?_)
 have := wpT_of_OT (P := P) (Q := Q) (m := m) (ops := l.toArray) (by simpa using hz) hs hcb hsel t (Array.replicate l.length false) a w.drew (by simpa using inv0) (Below.refl _ _) ho (h _ (Below.refl _ _).drew)
 rw [hl] at this
 simpa [hz] using this
end
end Go.Proofs.YtbecajihgbbgjaaDoor.K

namespace Go.Proofs.YtbecajihgbbgjaaDoor
set_option maxRecDepth 8000
open Go.RowKit Go.Proofs.YtbecajihgbbgjaaDoor.K
attribute [local irreducible] wpList wpQuiet
section
variable {w w' : World} {base b2 n : Nat} {v : Value} {fs : List (List Qu.Cd)}
theorem FsOwn.mono (h : FsOwn w base v fs) (hb : b2 ≤ base) : FsOwn w b2 v fs := by
 obtain ⟨A, c, hs, rfl, ho, hc⟩ := h
 exact ⟨A, c, hs, rfl, own_mono ho hb, ⟨hc.len, fun i d xs hi hx => ⟨(hc.row i d xs hi hx).1, own_mono (hc.row i d xs hi hx).2 hb⟩⟩⟩
theorem FsOwn.keep (h : FsOwn w base v fs) (hb : Below w.heap.size w w') : FsOwn w' base v fs := by
 obtain ⟨A, c, hs, rfl, ho, hc⟩ := h
 exact ⟨A, c, hs, rfl, own_keep ho hb, hc.keep hb⟩
theorem FsOwn.store {b : Nat} {ds : Array Value} {u : TypeId} (h : FsOwn w base v fs) (hb : w.heap[b]? = some (.cells ds u (0, 0))) (h1 : u ≠ 44) (h2 : u ≠ 49) (hfar : ∀ k o, k ≠ b → w.heap[k]? = some o → w'.heap[k]? = some o) : FsOwn w' base v fs := by
 obtain ⟨A, c, hs, rfl, ho, hc⟩ := h
 exact ⟨A, c, hs, rfl, own_farT ho hb h1 hfar, ⟨hc.len, fun i d xs hi hx => ⟨(hc.row i d xs hi hx).1, own_farT (hc.row i d xs hi hx).2 hb h2 hfar⟩⟩⟩
end
end Go.Proofs.YtbecajihgbbgjaaDoor

namespace Go.Proofs.YtbecajihgbbgjaaDoor
set_option maxRecDepth 8000
open Go.RowKit Go.Proofs.YtbecajihgbbgjaaDoor.K
attribute [local irreducible] wpList wpQuiet
namespace K
/-- all that lay in w lies there still -/
structure BW (w w' : World) : Prop where
 b : Below w.heap.size w w'
section
variable {w w1 w2 : World}
theorem BW.refl (w : World) : BW w w := ⟨Below.refl _ _⟩
theorem BW.keep (h : BW w w1) (hb : Below w1.heap.size w1 w2) : BW w w2 := ⟨bel_step h.b hb⟩
theorem BW.store {b : Nat} (h : BW w w1) (hb : w.heap.size ≤ b) (hbel : ∀ B v0, B ≤ b → Below B v0 w1 → Below B v0 w2) : BW w w2 := ⟨hbel _ _ hb h.b⟩
end
end K
theorem Gc.lt {w : World} (h : Gc w) : 1 < w.heap.size := by
 have h1 := h 0 _ rfl
 unfold World.cell? at h1
 cases ho : w.heap[1]? with
 | none => simp [ho] at h1
 | some o => exact (Array.getElem?_eq_some_iff.1 ho).1
end Go.Proofs.YtbecajihgbbgjaaDoor

