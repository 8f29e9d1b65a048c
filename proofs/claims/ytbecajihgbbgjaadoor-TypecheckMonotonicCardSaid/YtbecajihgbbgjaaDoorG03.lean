/- Several texts in one: Yc, Yg, Yh, Yi, Yk, Yl, Ym, Yn, Yo. -/
import Derived.Test.YtbecajihgbbgjaaDoorG02
set_option linter.unusedVariables false
set_option linter.unusedSimpArgs false
set_option linter.unusedSectionVars false
namespace Go.Proofs.YtbecajihgbbgjaaDoor.K
set_option maxRecDepth 8000
open Go.RowKit
section
variable {P : Program} {ev : Operand → Value} {o : Oper} {w w' : World} {x y : Operand} {ty t : TypeId}
/-- a struct is stored in the midst of a row -/
theorem xo_storeM {tt : TypeId} (g off : Nat) (old new : Array Value) (vs : List Value) (hg : w.heap[g]? = some (.cells old tt (0, 0))) (hn : (old.toList.take off ++ vs ++ old.toList.drop (off + vs.length)).toArray = new) (hl : off + vs.length ≤ old.size) (hs : (P.info? ty).map (·.size) = some vs.length) (h1 : ∀ v ∈ vs, v.oneCell' = true) (ho : o.op = .store ty x y) (hx : ev x = .pointer (some ⟨g, off, none⟩)) (hy : (ev y).cells = vs.toArray) :
  (execOp ev o).run P w = .ok .skip (w.setRow g new) := by
 have hst := run_storeCells_at P g off tt vs 0 old w hg (by omega) h1
 rw [Nat.add_zero] at hst
 cases hq : P.info? ty with
 | none => simp [hq] at hs
 | some inf =>
  have hsz : inf.size = vs.length := by simpa [hq] using hs
  unfold execOp
  simp only [ho, hx, Instr.storeAt, Instr.sureAddr, Sem.run_bind, Sem.run_pure, Result.andThen_ok, storeVar, sizeOf, typeInfo, run_program, hq, hsz, hy]
  simp only [List.append_assoc] at hn
  simp [hst, Sem.run_bind, hn]
end
/-- only the blocks p and q may have changed -/
structure FarH (p q : Nat) (w w' : World) : Prop where
 size : w.heap.size ≤ w'.heap.size
 far : ∀ k o, k ≠ p → k ≠ q → w.heap[k]? = some o → w'.heap[k]? = some o
structure FarC (p q : Nat) (w w' : World) : Prop extends FarH p q w w' where
 os : w'.os = w.os
 tape : w'.tape = w.tape
 output : w'.output = w.output
section
variable {p q : Nat} {w w' w0 V : World}
theorem FarH.refl (p q : Nat) (w : World) : FarH p q w w := ⟨Nat.le_refl _, fun _ _ _ _ h => h⟩
theorem FarH.trans {w1 w2 : World} (h : FarH p q w0 w1) (k : FarH p q w1 w2) : FarH p q w0 w2 := ⟨Nat.le_trans h.size k.size, fun b o hp hq ho => k.far b o hp hq (h.far b o hp hq ho)⟩
theorem FarH.of_below (h : Below w.heap.size w w') : FarH p q w w' := ⟨h.size, fun _ _ _ _ ho => heap_keep ho h⟩
theorem FarH.keep (h : FarH p q w0 w) (hb : Below w.heap.size w w') : FarH p q w0 w' := h.trans (.of_below hb)
theorem FarH.store {b : Nat} (h : FarH p q w0 w) (hb : b = p ∨ b = q ∨ w0.heap.size ≤ b) (hs : w'.heap.size = w.heap.size) (hfar : ∀ k o, k ≠ b → w.heap[k]? = some o → w'.heap[k]? = some o) : FarH p q w0 w' :=
 ⟨by have := h.size; omega, fun k o hp hq ho => hfar k o (fun e => by
  subst e
  rcases hb with rfl | rfl | hb
  ·exact hp rfl
  ·exact hq rfl
  ·have := (Array.getElem?_eq_some_iff.1 ho).1
   omega) (h.far k o hp hq ho)⟩
end
end Go.Proofs.YtbecajihgbbgjaaDoor.K
namespace Go.Proofs.YtbecajihgbbgjaaDoor
open Go.RowKit Go.Proofs.YtbecajihgbbgjaaDoor.K
/-- a condition in cells -/
def cdC (c : Qu.Cd) : List Value := [.int .i64 (c.col : Int), .int .i64 (c.lo : Int), .int .i64 (c.hi : Int)]
instance : Enc cdC 3 := ⟨fun _ => rfl, fun x u hu => by
 simp only [cdC, List.mem_cons, List.not_mem_nil, or_false] at hu
 rcases hu with rfl | rfl | rfl <;> rfl, by decide⟩
/-- the table of the columns -/
def Gc (w : World) : Prop := w.rangeAt 1 0 [.string (sB (Qu.nameN 0)), .int .i64 15, .string (sB (Qu.nameN 1)), .int .i64 255, .string (sB (Qu.nameN 2)), .int .i64 15, .string (sB (Qu.nameN 3)), .int .i64 255]
theorem Gc.keep {w w' : World} (h : Gc w) (hb : Below w.heap.size w w') : Gc w' := fun j v hv => cell_keep (h j v hv) hb
section
variable {ev : Operand → Value} {o : Oper} {w : World} {x y : Operand} {t : TypeId}
end
end Go.Proofs.YtbecajihgbbgjaaDoor

namespace Go.Proofs.YtbecajihgbbgjaaDoor.K
set_option maxRecDepth 8000
open Go.RowKit
section
theorem getObjM {P : Program} {w : World} {r : Nat} {es : Array MapEntry} {clock : Nat} (hb : w.heap[r]? = some (.map es clock)) : (getObj r).run P w = .ok (.map es clock) w := by
 simp [getObj, Sem.run, hb]
theorem setObjM {P : Program} {w : World} {r : Nat} {es : Array MapEntry} {clock : Nat} (o : Obj) (hb : w.heap[r]? = some (.map es clock)) : (setObj r o).run P w = .ok () { w with heap := w.heap.setIfInBounds r o } := by
 simp [setObj, Sem.run, hb]
variable {P : Program} {ops : Array Oper} {Q : Exit → Act → World → Prop}
theorem checkKeyI {k : TypeId} (hk : P.underlying k = some (.int .i64)) (e : Bool) (n : Nat) (v : Int) (w : World) : (Instr.checkKey e (n + 1) k (.int .i64 v)).run P w = .ok () w := by
 unfold Instr.checkKey
 simp only [Sem.run_bind]
 rw [run_underlying hk, Result.andThen_ok]
 rfl
theorem wpList_mkmap {rest : List Oper} {o : Oper} {a : Act} {w : World} {ty : TypeId} (hw : Region.wanted o (yielded ops a.tmps) = true) (ho : o.op = .makeMap ty none)
  (h : ∀ b W, w.heap.size ≤ b → W.heap[b]? = some (.map ([] : List MapEntry).toArray 0) → Below w.heap.size w W → wpList P ops Q rest (a.put o.dst (.map (some b))) W) : wpList P ops Q (o :: rest) a w :=
 wpList_run hw (.map (some w.heap.size)) (w.alloc (.map #[] 0)) (by unfold execOp; simp [ho, Instr.makeMap, Sem.run_bind]) (h _ _ (Nat.le_refl _) (heap_new w _) ((Below.refl _ _).alloc (Nat.le_refl _) _))
set_option maxRecDepth 100000 in
theorem wpList_ins {rest : List Oper} {o : Oper} {a : Act} {w : World} {ty kt et : TypeId} {m k x : Operand} (hw : Region.wanted o (yielded ops a.tmps) = true) (b : Nat) (es : List MapEntry) (c : Nat) (kv : Int) (v : Value) (hb : w.heap[b]? = some (.map es.toArray c))
  (hn : Instr.findNow (.int .i64) (.int .i64 kv) es 0 = some none) (hu : P.underlying ty = some (.map kt et)) (hk : P.underlying kt = some (.int .i64)) (ho : o.op = .insert ty m k x) (hm : a.eval m = .map (some b)) (hk' : a.eval k = .int .i64 kv) (hx : a.eval x = v)
  (h : ∀ W, W.heap[b]? = some (.map (es ++ [MapEntry.mk (.int .i64 kv) v c]).toArray (c + 1)) → (∀ B v0, B ≤ b → Below B v0 w → Below B v0 W) → wpList P ops Q rest (a.put o.dst undef) W) : wpList P ops Q (o :: rest) a w := by
 have hlt := (Array.getElem?_eq_some_iff.1 hb).1
 refine wpList_run0 hw { w with heap := w.heap.setIfInBounds b (.map (es ++ [MapEntry.mk (.int .i64 kv) v c]).toArray (c + 1)) } ?_ (h _ ?_ (fun B v0 hB hbl => ?_))
 ·unfold execOp
  simp only [ho, hm, hk', hx, Instr.mapUpdate, Sem.run_bind]
  rw [run_underlying hu, Result.andThen_ok]
  simp only [Sem.run_bind, getObjM hb, Result.andThen_ok, checkKeyI hk, Instr.findKey, run_underlying hk, hn, Sem.run_pure]
  simp only [Array.push, List.toList_toArray] 
  rw [setObjM _ hb]
  simp [Result.andThen_ok]
 ·simp [hlt]
 ·refine ⟨hbl.os, hbl.tape, hbl.output, by simpa using hbl.size, fun j hj => ?_⟩
  rw [← hbl.block j hj]
  simp only [Array.getElem?_setIfInBounds]
  rw [if_neg (by omega)]
set_option maxRecDepth 100000 in
theorem xm_lookup {ev : Operand → Value} {o : Oper} {w : World} {ty kt et : TypeId} {m k : Operand} (b : Nat) (es : List MapEntry) (c : Nat) (kv : Int) (j : Nat) (v : Value) (hb : w.heap[b]? = some (.map es.toArray c))
  (hn : Instr.findNow (.int .i64) (.int .i64 kv) es 0 = some (some (j, v))) (hu : P.underlying ty = some (.map kt et)) (hk : P.underlying kt = some (.int .i64)) (ho : o.op = .lookup ty m k false) (hm : ev m = .map (some b)) (hk' : ev k = .int .i64 kv) : (execOp ev o).run P w = .ok (.value v) w := by
 unfold execOp
 simp only [ho, hm, hk', Instr.lookup, Sem.run_bind]
 rw [run_underlying hu, Result.andThen_ok]
 simp [Sem.run_bind, getObjM hb, Result.andThen_ok, checkKeyI hk, Instr.findKey, run_underlying hk, hn, Sem.run_pure]
set_option maxRecDepth 100000 in
theorem xm_miss {ev : Operand → Value} {o : Oper} {w : World} {ty kt et : TypeId} {m k : Operand} (b : Nat) (es : List MapEntry) (c : Nat) (kv : Int) (z : Value) (hb : w.heap[b]? = some (.map es.toArray c)) (hz : (zeroValue et).run P w = .ok z w)
  (hn : Instr.findNow (.int .i64) (.int .i64 kv) es 0 = some none) (hu : P.underlying ty = some (.map kt et)) (hk : P.underlying kt = some (.int .i64)) (ho : o.op = .lookup ty m k false) (hm : ev m = .map (some b)) (hk' : ev k = .int .i64 kv) : (execOp ev o).run P w = .ok (.value z) w := by
 unfold execOp
 simp only [ho, hm, hk', Instr.lookup, Sem.run_bind]
 rw [run_underlying hu, Result.andThen_ok]
 simp [Sem.run_bind, getObjM hb, Result.andThen_ok, checkKeyI hk, Instr.findKey, run_underlying hk, hn, Sem.run_pure, hz]
end
end Go.Proofs.YtbecajihgbbgjaaDoor.K
namespace Go.Proofs.YtbecajihgbbgjaaDoor
open Go.RowKit Go.Proofs.YtbecajihgbbgjaaDoor.K
def formV (i : Nat) : Value := .agg #[.string (sB (Qu.kwN i)), .bool (Qu.hasC i), .int .i64 (Qu.maxK i : Int), .int .i64 (Qu.numF i : Int)]
def formE (i : Nat) : MapEntry := ⟨.int .i64 (i : Int), formV i, i - 1⟩
def formsM : Obj := .map [formE 1, formE 2, formE 3, formE 4, formE 5, formE 6, formE 7].toArray 7
theorem forms_find (i : Nat) (h1 : 1 ≤ i) (h7 : i ≤ 7) : Instr.findNow (.int .i64) (.int .i64 (i : Int)) [formE 1, formE 2, formE 3, formE 4, formE 5, formE 6, formE 7] 0 = some (some (i - 1, formV i)) := by
 rcases i with _ | _ | _ | _ | _ | _ | _ | _ | i
 ·omega
 all_goals first | rfl | omega
theorem forms_miss (i : Int) (h : i < 1 ∨ 7 < i) : Instr.findNow (.int .i64) (.int .i64 i) [formE 1, formE 2, formE 3, formE 4, formE 5, formE 6, formE 7] 0 = some none := by
 have e : ∀ j : Nat, 1 ≤ j → j ≤ 7 → (i == ((j : Nat) : Int)) = false := fun j h1 h7 => by
  rw [beq_eq_false_iff_ne]
  omega
 simp only [Instr.findNow, Instr.sameNow, formE, e 1 (by omega) (by omega), e 2 (by omega) (by omega), e 3 (by omega) (by omega), e 4 (by omega) (by omega), e 5 (by omega) (by omega), e 6 (by omega) (by omega), e 7 (by omega) (by omega), if_true]
end Go.Proofs.YtbecajihgbbgjaaDoor

namespace Go.Proofs.YtbecajihgbbgjaaDoor
set_option maxRecDepth 8000
open Go.RowKit Go.Proofs.YtbecajihgbbgjaaDoor.K
attribute [local irreducible] wpList wpQuiet
set_option maxRecDepth 100000 in
set_option maxHeartbeats 16000000 in
theorem forms_any (w : World) : Calls Tryd.prog 41 #[] w fun e w' => ∃ b, e = .returned (.map (some b)) ∧ w.heap.size ≤ b ∧ w'.heap[b]? = some formsM ∧ Below w.heap.size w w' := by
 go_enter Tryd.func41, Tryd.ntmps41
 go_upto_region 1 with fail
 refine wp_region_lit ?_
 refine wpList_mkmap (by kernel_rfl) rfl ?_
 intro b X0 hge hm0 hB0
 simp only [ptr, Act.put, zA]
 refine zr (.agg #[.string (sB ([99, 111, 117, 110, 116])), .bool false, .int .i64 0, .int .i64 1]) X0 (by unfold execOp; go_simp <;> rfl) ?_
 simp only [Act.put, zA]
 refine wpList_ins (by kernel_rfl) b _ 0 1 (formV 1) hm0 rfl Tryd.underlying79 Tryd.underlying3 rfl rfl rfl rfl ?_
 intro X1 hm1 hl1
 have hB1 := hl1 _ _ hge hB0
 clear hl1 hm0 hB0
 simp only [ptr, Act.put, zA]
 refine zr (.agg #[.string (sB ([116, 111, 116, 97, 108])), .bool true, .int .i64 0, .int .i64 1]) X1 (by unfold execOp; go_simp <;> rfl) ?_
 simp only [Act.put, zA]
 refine wpList_ins (by kernel_rfl) b _ 1 2 (formV 2) hm1 rfl Tryd.underlying79 Tryd.underlying3 rfl rfl rfl rfl ?_
 intro X2 hm2 hl2
 have hB2 := hl2 _ _ hge hB1
 clear hl2 hm1 hB1
 simp only [ptr, Act.put, zA]
 refine zr (.agg #[.string (sB ([109, 111, 109, 101, 110, 116])), .bool true, .int .i64 6, .int .i64 1]) X2 (by unfold execOp; go_simp <;> rfl) ?_
 simp only [Act.put, zA]
 refine wpList_ins (by kernel_rfl) b _ 2 3 (formV 3) hm2 rfl Tryd.underlying79 Tryd.underlying3 rfl rfl rfl rfl ?_
 intro X3 hm3 hl3
 have hB3 := hl3 _ _ hge hB2
 clear hl3 hm2 hB2
 simp only [ptr, Act.put, zA]
 refine zr (.agg #[.string (sB ([103, 114, 111, 117, 112, 115])), .bool true, .int .i64 0, .int .i64 1]) X3 (by unfold execOp; go_simp <;> rfl) ?_
 simp only [Act.put, zA]
 refine wpList_ins (by kernel_rfl) b _ 3 4 (formV 4) hm3 rfl Tryd.underlying79 Tryd.underlying3 rfl rfl rfl rfl ?_
 intro X4 hm4 hl4
 have hB4 := hl4 _ _ hge hB3
 clear hl4 hm3 hB3
 simp only [ptr, Act.put, zA]
 refine zr (.agg #[.string (sB ([100, 105, 115, 116, 105, 110, 99, 116])), .bool true, .int .i64 0, .int .i64 1]) X4 (by unfold execOp; go_simp <;> rfl) ?_
 simp only [Act.put, zA]
 refine wpList_ins (by kernel_rfl) b _ 4 5 (formV 5) hm4 rfl Tryd.underlying79 Tryd.underlying3 rfl rfl rfl rfl ?_
 intro X5 hm5 hl5
 have hB5 := hl5 _ _ hge hB4
 clear hl5 hm4 hB4
 simp only [ptr, Act.put, zA]
 refine zr (.agg #[.string (sB ([115, 109, 97, 108, 108, 101, 115, 116])), .bool true, .int .i64 65536, .int .i64 1]) X5 (by unfold execOp; go_simp <;> rfl) ?_
 simp only [Act.put, zA]
 refine wpList_ins (by kernel_rfl) b _ 5 6 (formV 6) hm5 rfl Tryd.underlying79 Tryd.underlying3 rfl rfl rfl rfl ?_
 intro X6 hm6 hl6
 have hB6 := hl6 _ _ hge hB5
 clear hl6 hm5 hB5
 simp only [ptr, Act.put, zA]
 refine zr (.agg #[.string (sB ([112, 97, 105, 114, 115])), .bool false, .int .i64 0, .int .i64 2]) X6 (by unfold execOp; go_simp <;> rfl) ?_
 simp only [Act.put, zA]
 refine wpList_ins (by kernel_rfl) b _ 6 7 (formV 7) hm6 rfl Tryd.underlying79 Tryd.underlying3 rfl rfl rfl rfl ?_
 intro X7 hm7 hl7
 have hB7 := hl7 _ _ hge hB6
 clear hl7 hm6 hB6
 simp only [ptr, Act.put, zA]
 refine zr (.map (some b)) X7 rfl ?_
 simp only [Act.put, zA]
 refine zr (.map (some b)) X7 rfl ?_
 simp only [Act.put, zA]
 refine wpList_nil ?_
 go_wp2_with fail
 go_ret
 exact ⟨b, rfl, hge, hm7, hB7⟩
end Go.Proofs.YtbecajihgbbgjaaDoor

namespace Go.Proofs.YtbecajihgbbgjaaDoor
set_option maxRecDepth 8000
open Go.RowKit Go.Proofs.YtbecajihgbbgjaaDoor.K
attribute [local irreducible] wpList wpQuiet
theorem xc_iad {ev : Operand → Value} {o : Oper} {w : World} {x y : Operand} (i : Nat) (hi : i < 4) (ho : o.op = .indexAddr 97 x y) (hx : ev x = .pointer (some ⟨1, 0, none⟩)) (hy : ev y = .int .i64 (i : Int)) :
  (execOp ev o).run Tryd.prog w = .ok (.value (.pointer (some ⟨1, i * 2, none⟩))) w := by
 unfold execOp
 simp only [ho, hx, hy]
 rcases i with _ | _ | _ | _ | i
 ·rfl
 ·rfl
 ·rfl
 ·rfl
 ·omega
theorem Gc.max {w : World} (h : Gc w) (i : Nat) (hi : i < 4) : w.cell? ⟨1, i * 2 + 1, none⟩ = some (.int .i64 (Qu.maxN i : Int)) := by
 rcases i with _ | _ | _ | _ | i
 ·exact h 1 _ rfl
 ·exact h 3 _ rfl
 ·exact h 5 _ rfl
 ·exact h 7 _ rfl
 ·omega
end Go.Proofs.YtbecajihgbbgjaaDoor

namespace Go.Proofs.YtbecajihgbbgjaaDoor
set_option maxRecDepth 8000
open Go.RowKit Go.Proofs.YtbecajihgbbgjaaDoor.K
attribute [local irreducible] wpList wpQuiet
/-- filters that lie in own slices, under heads -/
structure OwnsC (w : World) (t : TypeId) (base : Nat) (hs : List Hd) (fs : List (List Qu.Cd)) : Prop where
 len : hs.length = fs.length
 row : ∀ (i : Nat) (h : Hd) (xs : List Qu.Cd), hs[i]? = some h → fs[i]? = some xs → xs.length = h.n ∧ w.ownsRow base t 3 (.slice h.A h.n h.c) h.n (fl cdC xs)
section
variable {w w' : World} {t : TypeId} {base : Nat} {hs : List Hd} {fs : List (List Qu.Cd)}
theorem OwnsC.keep (h : OwnsC w t base hs fs) (hb : Below w.heap.size w w') : OwnsC w' t base hs fs := ⟨h.len, fun i d xs hi hx => ⟨(h.row i d xs hi hx).1, own_keep (h.row i d xs hi hx).2 hb⟩⟩
theorem OwnsC.grown {b0 : Nat} {e : TypeId} {size n : Nat} {v : Value} {cs : List Value} (h : OwnsC w t base hs fs) (ho : w.ownsRow b0 e size v n cs) (hg : w.grownBy w' v.ownBlock) (hne : t ≠ e) : OwnsC w' t base hs fs :=
 ⟨h.len, fun i d xs hi hx => ⟨(h.row i d xs hi hx).1, own_growT (h.row i d xs hi hx).2 ho hg hne⟩⟩
theorem OwnsC.nil : OwnsC w t base [] [] := ⟨rfl, fun i h xs hi => by simp at hi⟩
theorem OwnsC.push {n c : Nat} {A : Option Addr} {xs : List Qu.Cd} (h : OwnsC w t base hs fs) (ho : w.ownsRow base t 3 (.slice A n c) n (fl cdC xs)) (hl : xs.length = n) : OwnsC w t base (hs ++ [Hd.mk A n c]) (fs ++ [xs]) :=
 ⟨by simp [h.len], fun i d ys hi hx => by
  rw [List.getElem?_append] at hi hx
  rw [h.len] at hi
  split at hi
  ·next hlt => rw [if_pos hlt] at hx; exact h.row i d ys hi hx
  ·next hlt =>
   rw [if_neg hlt] at hx
   have h0 : i - fs.length = 0 := by have := (List.getElem?_eq_some_iff.1 hi).1; simp at this; omega
   rw [h0] at hi hx
   simp at hi hx
   subst hi hx
   exact ⟨hl, ho⟩⟩
theorem OwnsC.sg (h : OwnsC w t base hs fs) {i : Nat} {d : Hd} {xs : List Qu.Cd} (hi : hs[i]? = some d) (hx : fs[i]? = some xs) : Sg cdC 3 w d.A d.n d.c xs := Sg.ownS (h.row i d xs hi hx).2
end
/-- the filters of a query, own -/
def FsOwn (w : World) (base : Nat) (v : Value) (fs : List (List Qu.Cd)) : Prop := ∃ A c hs, v = .slice A fs.length c ∧ w.ownsRow base 44 1 (.slice A fs.length c) fs.length (fl hdC hs) ∧ OwnsC w 49 base hs fs
theorem own_nil {w : World} {base : Nat} {e : TypeId} {size : Nat} : w.ownsRow base e size (.slice none 0 0) 0 [] := ⟨by simp, .inl ⟨rfl, rfl⟩⟩
section
variable {s : List UInt8} {n : Nat} {fs : List (List Qu.Cd)} {st : Qu.St} {c : Qu.Rs (List Qu.Cd)}
end
end Go.Proofs.YtbecajihgbbgjaaDoor

namespace Go.Proofs.YtbecajihgbbgjaaDoor.K
set_option maxRecDepth 8000
open Go.RowKit
section
variable {P : Program} {ops : Array Oper} {S : World → Prop} {Q : Exit → Act → World → Prop} {m : Nat}
/-- as okT, the operation m being the last -/
def okM (ops : Array Oper) (m : Nat) : OT → Array Bool → Bool
 | .nil, l => Region.ready .any ops l == [m]
 | .q i t, l => decide (i < m) && (ops[i]?.all stillOp) && Region.free .any ops l i && (Region.ready .any ops l).contains i && okM ops m t (l.setIfInBounds i true)
 | .one i t, l => decide (i < m) && (ops[i]?.all fun o => !stillOp o) && (Region.ready .any ops l == [i]) && okM ops m t (l.setIfInBounds i true)
 | .fork i t j u, l => decide (i < m) && decide (j < m) && (ops[i]?.all fun o => !stillOp o) && (ops[j]?.all fun o => !stillOp o) && (Region.ready .any ops l == [i, j]) && (t.len == u.len) && okM ops m t (l.setIfInBounds i true) && okM ops m u (l.setIfInBounds j true)
theorem wpT_of_OT (hz : ops.size = m + 1) (hs : Region.sinkB .any ops m = true) (hcb : Region.chainB .any ops m = true) (hsel : Region.noSelect ops = true) : ∀ (t : OT) (l : Array Bool) (a : Act) (w : World), HeadInv .any ops m l → S w → okM ops m t l = true →
  wpOT P ops S (fun _ a w => mOp P ops m (fun a w => Q .normal a w) a w) t a w → wpT P ops S m Q (t.len + 1) l a w
 | .nil, l, a, w, inv, hS, ho, h => by
  unfold okM at ho
  have hr : Region.ready .any ops l = [m] := by simpa using ho
  refine ⟨fun e => (by rw [hr] at e; cases e), fun i hi => ?_⟩
  have hi' := hi
  rw [hr] at hi
  obtain rfl : i = m := by simpa using hi
  rw [tOp_eq]
  obtain ⟨om, hom, hw, hh⟩ := h
  exact ⟨om, hom, hw, hOp_mono (fun v w' hq => ⟨none_left hz hs hcb inv hi', hq⟩) hh⟩
 | .q i t, l, a, w, inv, hS, ho, h => by
  unfold okM at ho
  simp only [Bool.and_eq_true, decide_eq_true_eq] at ho
  obtain ⟨⟨⟨⟨him, hst⟩, hf⟩, hrd⟩, ho⟩ := ho
  obtain ⟨o, hi, v, hy, hk⟩ := h
  have hr : i ∈ Region.ready .any ops l := by simpa using hrd
  rw [hi] at hst
  have hst : stillOp o = true := by simpa using hst
  refine wpT_first hz hs hcb him hi (Region.noSelect_spec hsel) (t.len + 1) l a w inv hS (Region.free_spec hi hf) (fun e => by rw [hst] at e; cases e) hr ?_
  unfold sOp
  rw [hi]
  exact .inl ⟨.inl hst, v, hy, wpT_of_OT hz hs hcb hsel t _ _ w (inv.set hr him) hS ho hk⟩
 | .one i t, l, a, w, inv, hS, ho, h => by
  unfold okM at ho
  simp only [Bool.and_eq_true, decide_eq_true_eq] at ho
  obtain ⟨⟨⟨him, hst⟩, hrd⟩, ho⟩ := ho
  obtain ⟨o, hi, hw, hk⟩ := h
  have hr : Region.ready .any ops l = [i] := by simpa using hrd
  rw [hi] at hst
  have hst : stillOp o = false := by simpa using hst
  refine ⟨fun e => (by rw [hr] at e; cases e), fun j hj => ?_⟩
  have hj' := hj
  rw [hr] at hj
  obtain rfl : j = i := by simpa using hj
  rw [tOp_ne (by omega)]
  unfold sOp
  rw [hi]
  exact .inr ⟨not_quiet hst hw, hOp_mono (fun v w' hq => ⟨hq.1, wpT_of_OT hz hs hcb hsel t _ _ w' (inv.set hj' him) hq.1 ho hq.2⟩) hk⟩
 | .fork i t j u, l, a, w, inv, hS, ho, h => by
  unfold okM at ho
  simp only [Bool.and_eq_true, decide_eq_true_eq] at ho
  obtain ⟨⟨⟨⟨⟨⟨⟨him, hjm⟩, hsi⟩, hsj⟩, hrd⟩, hlen⟩, h1⟩, h2⟩ := ho
  obtain ⟨⟨o, hi, hw, hk⟩, ⟨o2, hi2, hw2, hk2⟩⟩ := h
  have hr : Region.ready .any ops l = [i, j] := by simpa using hrd
  have hlen : t.len = u.len := by simpa using hlen
  rw [hi] at hsi
  rw [hi2] at hsj
  have hsi : stillOp o = false := by simpa using hsi
  have hsj : stillOp o2 = false := by simpa using hsj
  refine ⟨fun e => (by rw [hr] at e; cases e), fun q hq => ?_⟩
  have hq' := hq
  rw [hr] at hq
  rcases List.mem_cons.1 hq with rfl | hq
  ·rw [tOp_ne (by omega)]
   unfold sOp
   rw [hi]
   exact .inr ⟨not_quiet hsi hw, hOp_mono (fun v w' hq => ⟨hq.1, wpT_of_OT hz hs hcb hsel t _ _ w' (inv.set hq' him) hq.1 h1 hq.2⟩) hk⟩
  ·obtain rfl : q = j := by simpa using hq
   rw [tOp_ne (by omega)]
   unfold sOp
   rw [hi2]
   exact .inr ⟨not_quiet hsj hw2, hOp_mono (fun v w' hq => ⟨hq.1, by have := wpT_of_OT hz hs hcb hsel u _ _ w' (inv.set hq' hjm) hq.1 h2 hq.2; rw [← hlen] at this; exact this⟩) hk2⟩
theorem wp_ordM (m : Nat) (t : OT) {id : Nat} {a : Act} {w : World} {l : List Oper} (hm : P.follows .mixedOrders = true) (hsel : Region.noSelect l.toArray = true) (hz : l.length = m + 1) (hl : t.len = m) (hs : Region.sinkB .any l.toArray m = true) (hcb : Region.chainB .any l.toArray m = true) (ho : okM l.toArray m t (Array.replicate l.length false) = true)
  (h : ∀ V, Below w.heap.size w V → wpOT P l.toArray (fun X => Below V.heap.size V X) (fun _ a w => mOp P l.toArray m (fun a w => Q .normal a w) a w) t a V) : (Code.region id l.toArray true).wp P Q a w := by
 have inv0 : HeadInv .any l.toArray m (Array.replicate l.toArray.size false) :=
  ⟨by simp, fun j oj _ hl => (by rw [getD_replicate_false] at hl; cases hl), fun t _ ht => getD_in (by simpa using ht) (getD_replicate_false _ _)⟩
 refine wp_region_any hm (wpAny_of_wpT (S := fun X => Below w.drew.heap.size w.drew X) (m := m) (by simpa using hz) hs hcb _ _ _ _ inv0 (Below.refl _ _) ?_)
 have := wpT_of_OT (P := P) (Q := Q) (m := m) (ops := l.toArray) (by simpa using hz) hs hcb hsel t (Array.replicate l.length false) a w.drew (by simpa using inv0) (Below.refl _ _) ho (h _ (Below.refl _ _).drew)
 rw [hl] at this
 simpa [hz] using this
end
end Go.Proofs.YtbecajihgbbgjaaDoor.K

namespace Go.Proofs.YtbecajihgbbgjaaDoor
set_option maxRecDepth 8000
open Go.RowKit Go.Proofs.YtbecajihgbbgjaaDoor.K
attribute [local irreducible] wpList wpQuiet
section
variable {w w' : World} {base b2 n : Nat} {v : Value} {fs : List (List Qu.Cd)}
theorem FsOwn.mono (h : FsOwn w base v fs) (hb : b2 ≤ base) : FsOwn w b2 v fs := by
 obtain ⟨A, c, hs, rfl, ho, hc⟩ := h
 exact ⟨A, c, hs, rfl, own_mono ho hb, ⟨hc.len, fun i d xs hi hx => ⟨(hc.row i d xs hi hx).1, own_mono (hc.row i d xs hi hx).2 hb⟩⟩⟩
theorem FsOwn.keep (h : FsOwn w base v fs) (hb : Below w.heap.size w w') : FsOwn w' base v fs := by
 obtain ⟨A, c, hs, rfl, ho, hc⟩ := h
 exact ⟨A, c, hs, rfl, own_keep ho hb, hc.keep hb⟩
theorem FsOwn.store {b : Nat} {ds : Array Value} {u : TypeId} (h : FsOwn w base v fs) (hb : w.heap[b]? = some (.cells ds u (0, 0))) (h1 : u ≠ 44) (h2 : u ≠ 49) (hfar : ∀ k o, k ≠ b → w.heap[k]? = some o → w'.heap[k]? = some o) : FsOwn w' base v fs := by
 obtain ⟨A, c, hs, rfl, ho, hc⟩ := h
 exact ⟨A, c, hs, rfl, own_farT ho hb h1 hfar, ⟨hc.len, fun i d xs hi hx => ⟨(hc.row i d xs hi hx).1, own_farT (hc.row i d xs hi hx).2 hb h2 hfar⟩⟩⟩
end
end Go.Proofs.YtbecajihgbbgjaaDoor

namespace Go.Proofs.YtbecajihgbbgjaaDoor
set_option maxRecDepth 8000
open Go.RowKit Go.Proofs.YtbecajihgbbgjaaDoor.K
attribute [local irreducible] wpList wpQuiet
namespace K
/-- all that lay in w lies there still -/
structure BW (w w' : World) : Prop where
 b : Below w.heap.size w w'
section
variable {w w1 w2 : World}
theorem BW.refl (w : World) : BW w w := ⟨Below.refl _ _⟩
theorem BW.keep (h : BW w w1) (hb : Below w1.heap.size w1 w2) : BW w w2 := ⟨bel_step h.b hb⟩
theorem BW.store {b : Nat} (h : BW w w1) (hb : w.heap.size ≤ b) (hbel : ∀ B v0, B ≤ b → Below B v0 w1 → Below B v0 w2) : BW w w2 := ⟨hbel _ _ hb h.b⟩
end
end K
theorem Gc.lt {w : World} (h : Gc w) : 1 < w.heap.size := by
 have h1 := h 0 _ rfl
 unfold World.cell? at h1
 cases ho : w.heap[1]? with
 | none => simp [ho] at h1
 | some o => exact (Array.getElem?_eq_some_iff.1 ho).1
end Go.Proofs.YtbecajihgbbgjaaDoor

namespace Go.Proofs.YtbecajihgbbgjaaDoor
set_option maxRecDepth 8000
open Go.RowKit Go.Proofs.YtbecajihgbbgjaaDoor.K
attribute [local irreducible] wpList wpQuiet
/-- a condition as it comes in -/
structure _root_.Qu.Ci where
 col : Int
 lo : Int
 hi : Int
 deriving DecidableEq
def _root_.Qu.Cd.ci (c : Qu.Cd) : Qu.Ci := ⟨(c.col : Int), (c.lo : Int), (c.hi : Int)⟩
def _root_.Qu.isC (x : Int) : Bool := decide (0 ≤ x) && decide (x < 4)
def _root_.Qu.vC (e : Qu.Ci) : Bool := Qu.isC e.col && (decide (0 ≤ e.lo) && (decide (e.lo ≤ e.hi) && decide (e.hi ≤ (Qu.maxN e.col.toNat : Int))))
def _root_.Qu.vL (l : List Qu.Ci) : Bool := l.all Qu.vC && decide (l.length ≤ 3)
def ciC (c : Qu.Ci) : List Value := [.int .i64 c.col, .int .i64 c.lo, .int .i64 c.hi]
instance : Enc ciC 3 := ⟨fun _ => rfl, fun x u hu => by
 simp only [ciC, List.mem_cons, List.not_mem_nil, or_false] at hu
 rcases hu with rfl | rfl | rfl <;> rfl, by decide⟩
theorem all_false {α : Type} {f : α → Bool} {l : List α} {i : Nat} {x : α} (h : l[i]? = some x) (hf : f x = false) : l.all f = false := by
 rw [List.all_eq_false]
 exact ⟨x, List.mem_of_getElem? h, by rw [hf]; decide⟩
theorem all_take {α : Type} {f : α → Bool} {l : List α} {i : Nat} {x : α} (h : l[i]? = some x) (h0 : (l.take i).all f = true) (hf : f x = true) : (l.take (i + 1)).all f = true := by
 rw [List.take_add_one, h]
 simp [h0, hf]
set_option maxRecDepth 100000 in
set_option maxHeartbeats 8000000 in
theorem isColumn_as (x : Int) (b : Bool) (hb : Qu.isC x = b) (w : World) : Calls Tryd.prog 55 #[.int .i64 x] w fun e w' => e = .returned (.bool b) ∧ w' = w := by
 go_enter Tryd.func55, Tryd.ntmps55
 go_upto_region 1 with fail
 by_cases h0 : x ≥ 0
 ·by_cases h1 : x < 4
  ·refine wp_region_lit ?_
   refine zr (.int .i64 x) w rfl ?_
   simp only [Act.put, zA]
   refine zr (.bool true) w (xo_geqT .i64 x 0 (by omega) rfl rfl rfl) ?_
   simp only [Act.put, zA]
   refine zr (.bool true) w rfl ?_
   simp only [Act.put, zA]
   refine zr (.int .i64 x) w rfl ?_
   simp only [Act.put, zA]
   refine zr (.bool true) w (xo_lssT .i64 x 4 (by omega) rfl rfl rfl) ?_
   simp only [Act.put, zA]
   refine zr (.bool true) w rfl ?_
   simp only [Act.put, zA]
   refine zr (.bool true) w rfl ?_
   simp only [Act.put, zA]
   refine wpList_nil ?_
   go_wp2_with fail
   go_ret
   exact ⟨by rw [← hb]; unfold Qu.isC; simp <;> omega, rfl⟩
  ·refine wp_region_lit ?_
   refine zr (.int .i64 x) w rfl ?_
   simp only [Act.put, zA]
   refine zr (.bool true) w (xo_geqT .i64 x 0 (by omega) rfl rfl rfl) ?_
   simp only [Act.put, zA]
   refine zr (.bool true) w rfl ?_
   simp only [Act.put, zA]
   refine zr (.int .i64 x) w rfl ?_
   simp only [Act.put, zA]
   refine zr (.bool false) w (xo_lssF .i64 x 4 (by omega) rfl rfl rfl) ?_
   simp only [Act.put, zA]
   refine zr (.bool false) w rfl ?_
   simp only [Act.put, zA]
   refine zr (.bool false) w rfl ?_
   simp only [Act.put, zA]
   refine wpList_nil ?_
   go_wp2_with fail
   go_ret
   exact ⟨by rw [← hb]; unfold Qu.isC; simp <;> omega, rfl⟩
 ·refine wp_region_lit ?_
  refine zr (.int .i64 x) w rfl ?_
  simp only [Act.put, zA]
  refine zr (.bool false) w (xo_geqF .i64 x 0 (by omega) rfl rfl rfl) ?_
  simp only [Act.put, zA]
  refine zr (.bool false) w rfl ?_
  simp only [Act.put, zA]
  refine zl ?_
  try simp only [Act.put, zA]
  refine zl ?_
  try simp only [Act.put, zA]
  refine zr (.bool false) w rfl ?_
  simp only [Act.put, zA]
  refine zr (.bool false) w rfl ?_
  simp only [Act.put, zA]
  refine wpList_nil ?_
  go_wp2_with fail
  go_ret
  exact ⟨by rw [← hb]; unfold Qu.isC; simp <;> omega, rfl⟩
set_option maxRecDepth 100000 in
set_option maxHeartbeats 32000000 in
theorem validCond_as (col lo hi : Int) (b : Bool) (hb : Qu.vC ⟨col, lo, hi⟩ = b) (w : World) (hG : Gc w) :
  Calls Tryd.prog 56 #[.agg #[.int .i64 col, .int .i64 lo, .int .i64 hi]] w fun e w' => e = .returned (.bool b) ∧ Below w.heap.size w w' := by
 have HG := zh hG
 clear hG
 go_enter Tryd.func56, Tryd.ntmps56
 go_upto_region 1 with fail
 refine wp_named1 (fun V1 hb g0 hlt => ?_)
 have B0 := zh hb
 have Fv0_1 : Hid (V1.heap[w.heap.size]? = some (.cells #[.int .i64 col, .int .i64 lo, .int .i64 hi] 49 (0, 0))) := zh (g0)
 have Gb0 : Hid (w.heap.size ≤ w.heap.size) := zh (by omega)
 clear hb g0 hlt
 have Lt0 : Hid (w.heap.size < V1.heap.size) := zh (xp_lt Fv0_1.out)
 cases his : Qu.isC col with
 | false =>
  have hme : Qu.vC ⟨col, lo, hi⟩ = false := by unfold Qu.vC; rw [show (Qu.Ci.mk col lo hi).col = col from rfl, his]; rfl
  try simp only [List.append_eq, List.cons_append, List.nil_append]
  refine wp_ordX (.q 0 (.q 1 (.one 2 (.q 3 (.q 4 (.q 5 (.q 6 (.q 7 (.q 8 (.q 9 (.q 10 (.q 11 (.q 12 (.q 13 (.q 14 (.q 15 (.q 16 (.q 17 (.q 18 (.q 19 (.q 20 (.q 21 (.q 22 (.q 23 (.q 24 (.q 25 .nil)))))))))))))))))))))))))) (by kernel_rfl) (by kernel_rfl) (fun _ _ dt _ _ h => by first | exact h.elim | (cases dt <;> exact h)) (by kernel_rfl) (by kernel_rfl) (fun V2 hb => ?_)
  have B1 := zh hb
  clear hb
  refine wpX_q (.pointer (some ⟨w.heap.size, 0, none⟩)) rfl (by kernel_rfl) (fun v hW => (xo_fld0 0 w.heap.size 0 (by kernel_rfl) rfl rfl)) ?_
  simp only [ptr, Act.put, zA]
  refine wpX_q (.int .i64 col) rfl (by kernel_rfl) (fun v hW => (xo_load1 ⟨w.heap.size, 0, none⟩ _ (cells_at (heap_keep (heap_keep Fv0_1.out B1.out) hW) 0 rfl) Tryd.underlying3 rfl rfl rfl)) ?_
  simp only [ptr, Act.put, zA]
  refine wpX_one rfl (by kernel_rfl) ?_
  refine hOp_call 55 Tryd.func55 (by kernel_rfl) (by kernel_rfl) _ _ #[.int .i64 col] rfl (by kernel_rfl) ?_
  refine (isColumn_as col false his V2).mono ?_
  rintro e W1 ⟨rfl, hw1⟩
  rw [hw1]
  clear hw1 W1
  refine ⟨_, rfl, (Below.refl V2.heap.size V2), ?_⟩
  simp only [ptr, Act.put, zA]
  refine wpX_q (.bool false) rfl (by kernel_rfl) (fun v hW => rfl) ?_
  simp only [ptr, Act.put, zA]
  refine wpX_skip rfl (by kernel_rfl) ?_
  try simp only [ptr, Act.put, zA]
  refine wpX_skip rfl (by kernel_rfl) ?_
  try simp only [ptr, Act.put, zA]
  refine wpX_skip rfl (by kernel_rfl) ?_
  try simp only [ptr, Act.put, zA]
  refine wpX_q (.bool false) rfl (by kernel_rfl) (fun v hW => rfl) ?_
  simp only [ptr, Act.put, zA]
  refine wpX_q (.bool false) rfl (by kernel_rfl) (fun v hW => rfl) ?_
  simp only [ptr, Act.put, zA]
  refine wpX_skip rfl (by kernel_rfl) ?_
  try simp only [ptr, Act.put, zA]
  refine wpX_skip rfl (by kernel_rfl) ?_
  try simp only [ptr, Act.put, zA]
  refine wpX_skip rfl (by kernel_rfl) ?_
  try simp only [ptr, Act.put, zA]
  refine wpX_skip rfl (by kernel_rfl) ?_
  try simp only [ptr, Act.put, zA]
  refine wpX_skip rfl (by kernel_rfl) ?_
  try simp only [ptr, Act.put, zA]
  refine wpX_q (.bool false) rfl (by kernel_rfl) (fun v hW => rfl) ?_
  simp only [ptr, Act.put, zA]
  refine wpX_q (.bool false) rfl (by kernel_rfl) (fun v hW => rfl) ?_
  simp only [ptr, Act.put, zA]
  refine wpX_skip rfl (by kernel_rfl) ?_
  try simp only [ptr, Act.put, zA]
  refine wpX_skip rfl (by kernel_rfl) ?_
  try simp only [ptr, Act.put, zA]
  refine wpX_skip rfl (by kernel_rfl) ?_
  try simp only [ptr, Act.put, zA]
  refine wpX_skip rfl (by kernel_rfl) ?_
  try simp only [ptr, Act.put, zA]
  refine wpX_skip rfl (by kernel_rfl) ?_
  try simp only [ptr, Act.put, zA]
  refine wpX_skip rfl (by kernel_rfl) ?_
  try simp only [ptr, Act.put, zA]
  refine wpX_skip rfl (by kernel_rfl) ?_
  try simp only [ptr, Act.put, zA]
  refine wpX_skip rfl (by kernel_rfl) ?_
  try simp only [ptr, Act.put, zA]
  refine wpX_q (.bool false) rfl (by kernel_rfl) (fun v hW => rfl) ?_
  simp only [ptr, Act.put, zA]
  refine wpX_q (.bool false) rfl (by kernel_rfl) (fun v hW => rfl) ?_
  simp only [ptr, Act.put, zA]
  refine wpX_nil ?_
  obtain rfl : b = false := by rw [← hb, hme] <;> simp <;> omega
  have C0_2 := zb B0 B1
  have hbf := C0_2.out
  go_wp2_with fail
  go_ret
  exact ⟨rfl, hbf⟩
 | true =>
  have hcol : 0 ≤ col ∧ col < 4 := by unfold Qu.isC at his; simpa using his
  obtain ⟨k, rfl⟩ : ∃ k : Nat, col = (k : Int) := ⟨col.toNat, by omega⟩
  have hk4 : k < 4 := by omega
  obtain ⟨m, hm⟩ : ∃ m, Qu.maxN k = m := ⟨_, rfl⟩
  have HM := zh hm
  clear hm
  have hme : Qu.vC ⟨(k : Int), lo, hi⟩ = (decide (0 ≤ lo) && (decide (lo ≤ hi) && decide (hi ≤ (m : Int)))) := by unfold Qu.vC; rw [show (Qu.Ci.mk (k : Int) lo hi).col = (k : Int) from rfl, his, Int.toNat_natCast, HM.out]; rfl
  by_cases h1 : lo ≥ 0
  ·by_cases h2 : lo ≤ hi
   ·have hmi : ((Qu.maxN k : Nat) : Int) = (m : Int) := by rw [HM.out]
    by_cases h3 : hi ≤ ((Qu.maxN k : Nat) : Int)
    ·try simp only [List.append_eq, List.cons_append, List.nil_append]
     refine wp_ordX (.q 0 (.q 1 (.one 2 (.q 3 (.q 4 (.q 5 (.q 6 (.q 7 (.q 8 (.q 9 (.q 10 (.q 11 (.q 12 (.q 13 (.q 14 (.q 15 (.q 16 (.q 17 (.q 18 (.q 19 (.q 20 (.q 21 (.q 22 (.q 23 (.q 24 (.q 25 .nil)))))))))))))))))))))))))) (by kernel_rfl) (by kernel_rfl) (fun _ _ dt _ _ h => by first | exact h.elim | (cases dt <;> exact h)) (by kernel_rfl) (by kernel_rfl) (fun V2 hb => ?_)
     have B1 := zh hb
     clear hb
     refine wpX_q (.pointer (some ⟨w.heap.size, 0, none⟩)) rfl (by kernel_rfl) (fun v hW => (xo_fld0 0 w.heap.size 0 (by kernel_rfl) rfl rfl)) ?_
     simp only [ptr, Act.put, zA]
     refine wpX_q (.int .i64 (k : Int)) rfl (by kernel_rfl) (fun v hW => (xo_load1 ⟨w.heap.size, 0, none⟩ _ (cells_at (heap_keep (heap_keep Fv0_1.out B1.out) hW) 0 rfl) Tryd.underlying3 rfl rfl rfl)) ?_
     simp only [ptr, Act.put, zA]
     refine wpX_one rfl (by kernel_rfl) ?_
     refine hOp_call 55 Tryd.func55 (by kernel_rfl) (by kernel_rfl) _ _ #[.int .i64 (k : Int)] rfl (by kernel_rfl) ?_
     refine (isColumn_as (k : Int) true his V2).mono ?_
     rintro e W1 ⟨rfl, hw1⟩
     rw [hw1]
     clear hw1 W1
     refine ⟨_, rfl, (Below.refl V2.heap.size V2), ?_⟩
     simp only [ptr, Act.put, zA]
     refine wpX_q (.bool true) rfl (by kernel_rfl) (fun v hW => rfl) ?_
     simp only [ptr, Act.put, zA]
     refine wpX_q (.pointer (some ⟨w.heap.size, 1, none⟩)) rfl (by kernel_rfl) (fun v hW => (xo_fld0 1 w.heap.size 1 (by kernel_rfl) rfl rfl)) ?_
     simp only [ptr, Act.put, zA]
     refine wpX_q (.int .i64 lo) rfl (by kernel_rfl) (fun v hW => (xo_load1 ⟨w.heap.size, 1, none⟩ _ (cells_at (heap_keep (heap_keep Fv0_1.out B1.out) hW) 1 rfl) Tryd.underlying3 rfl rfl rfl)) ?_
     simp only [ptr, Act.put, zA]
     refine wpX_q (.bool true) rfl (by kernel_rfl) (fun v hW => (xo_geqT .i64 lo 0 (by omega) rfl rfl rfl)) ?_
     simp only [ptr, Act.put, zA]
     refine wpX_q (.bool true) rfl (by kernel_rfl) (fun v hW => rfl) ?_
     simp only [ptr, Act.put, zA]
     refine wpX_q (.bool true) rfl (by kernel_rfl) (fun v hW => rfl) ?_
     simp only [ptr, Act.put, zA]
     refine wpX_q (.pointer (some ⟨w.heap.size, 1, none⟩)) rfl (by kernel_rfl) (fun v hW => (xo_fld0 1 w.heap.size 1 (by kernel_rfl) rfl rfl)) ?_
     simp only [ptr, Act.put, zA]
     refine wpX_q (.int .i64 lo) rfl (by kernel_rfl) (fun v hW => (xo_load1 ⟨w.heap.size, 1, none⟩ _ (cells_at (heap_keep (heap_keep Fv0_1.out B1.out) hW) 1 rfl) Tryd.underlying3 rfl rfl rfl)) ?_
     simp only [ptr, Act.put, zA]
     refine wpX_q (.pointer (some ⟨w.heap.size, 2, none⟩)) rfl (by kernel_rfl) (fun v hW => (xo_fld0 2 w.heap.size 2 (by kernel_rfl) rfl rfl)) ?_
     simp only [ptr, Act.put, zA]
     refine wpX_q (.int .i64 hi) rfl (by kernel_rfl) (fun v hW => (xo_load1 ⟨w.heap.size, 2, none⟩ _ (cells_at (heap_keep (heap_keep Fv0_1.out B1.out) hW) 2 rfl) Tryd.underlying3 rfl rfl rfl)) ?_
     simp only [ptr, Act.put, zA]
     refine wpX_q (.bool true) rfl (by kernel_rfl) (fun v hW => (xo_leqT .i64 lo hi (by omega) rfl rfl rfl)) ?_
     simp only [ptr, Act.put, zA]
     refine wpX_q (.bool true) rfl (by kernel_rfl) (fun v hW => rfl) ?_
     simp only [ptr, Act.put, zA]
     refine wpX_q (.bool true) rfl (by kernel_rfl) (fun v hW => rfl) ?_
     simp only [ptr, Act.put, zA]
     refine wpX_q (.pointer (some ⟨w.heap.size, 2, none⟩)) rfl (by kernel_rfl) (fun v hW => (xo_fld0 2 w.heap.size 2 (by kernel_rfl) rfl rfl)) ?_
     simp only [ptr, Act.put, zA]
     refine wpX_q (.int .i64 hi) rfl (by kernel_rfl) (fun v hW => (xo_load1 ⟨w.heap.size, 2, none⟩ _ (cells_at (heap_keep (heap_keep Fv0_1.out B1.out) hW) 2 rfl) Tryd.underlying3 rfl rfl rfl)) ?_
     simp only [ptr, Act.put, zA]
     refine wpX_q (.pointer (some ⟨w.heap.size, 0, none⟩)) rfl (by kernel_rfl) (fun v hW => (xo_fld0 0 w.heap.size 0 (by kernel_rfl) rfl rfl)) ?_
     simp only [ptr, Act.put, zA]
     refine wpX_q (.int .i64 (k : Int)) rfl (by kernel_rfl) (fun v hW => (xo_load1 ⟨w.heap.size, 0, none⟩ _ (cells_at (heap_keep (heap_keep Fv0_1.out B1.out) hW) 0 rfl) Tryd.underlying3 rfl rfl rfl)) ?_
     simp only [ptr, Act.put, zA]
     refine wpX_q (.pointer (some ⟨1, k * 2, none⟩)) rfl (by kernel_rfl) (fun v hW => (xc_iad k (by omega) rfl rfl rfl)) ?_
     simp only [ptr, Act.put, zA]
     refine wpX_q (.pointer (some ⟨1, k * 2 + 1, none⟩)) rfl (by kernel_rfl) (fun v hW => (xo_fld 1 1 (k * 2) 1 (by kernel_rfl) rfl rfl)) ?_
     simp only [ptr, Act.put, zA]
     have C0_2 := zb B0 B1
     refine wpX_q (.int .i64 (Qu.maxN k : Int)) rfl (by kernel_rfl) (fun v hW => (xo_load1 ⟨1, k * 2 + 1, none⟩ _ (Gc.max ((HG.out.keep C0_2.out).keep hW) k (by omega)) Tryd.underlying3 rfl rfl rfl)) ?_
     simp only [ptr, Act.put, zA]
     refine wpX_q (.bool true) rfl (by kernel_rfl) (fun v hW => (xo_leqT .i64 hi ((Qu.maxN k : Nat) : Int) (by omega) rfl rfl rfl)) ?_
     simp only [ptr, Act.put, zA]
     refine wpX_q (.bool true) rfl (by kernel_rfl) (fun v hW => rfl) ?_
     simp only [ptr, Act.put, zA]
     refine wpX_q (.bool true) rfl (by kernel_rfl) (fun v hW => rfl) ?_
     simp only [ptr, Act.put, zA]
     refine wpX_nil ?_
     obtain rfl : b = true := by rw [← hb, hme] <;> simp <;> omega
     have hbf := C0_2.out
     go_wp2_with fail
     go_ret
     exact ⟨rfl, hbf⟩
    ·try simp only [List.append_eq, List.cons_append, List.nil_append]
     refine wp_ordX (.q 0 (.q 1 (.one 2 (.q 3 (.q 4 (.q 5 (.q 6 (.q 7 (.q 8 (.q 9 (.q 10 (.q 11 (.q 12 (.q 13 (.q 14 (.q 15 (.q 16 (.q 17 (.q 18 (.q 19 (.q 20 (.q 21 (.q 22 (.q 23 (.q 24 (.q 25 .nil)))))))))))))))))))))))))) (by kernel_rfl) (by kernel_rfl) (fun _ _ dt _ _ h => by first | exact h.elim | (cases dt <;> exact h)) (by kernel_rfl) (by kernel_rfl) (fun V2 hb => ?_)
     have B1 := zh hb
     clear hb
     refine wpX_q (.pointer (some ⟨w.heap.size, 0, none⟩)) rfl (by kernel_rfl) (fun v hW => (xo_fld0 0 w.heap.size 0 (by kernel_rfl) rfl rfl)) ?_
     simp only [ptr, Act.put, zA]
     refine wpX_q (.int .i64 (k : Int)) rfl (by kernel_rfl) (fun v hW => (xo_load1 ⟨w.heap.size, 0, none⟩ _ (cells_at (heap_keep (heap_keep Fv0_1.out B1.out) hW) 0 rfl) Tryd.underlying3 rfl rfl rfl)) ?_
     simp only [ptr, Act.put, zA]
     refine wpX_one rfl (by kernel_rfl) ?_
     refine hOp_call 55 Tryd.func55 (by kernel_rfl) (by kernel_rfl) _ _ #[.int .i64 (k : Int)] rfl (by kernel_rfl) ?_
     refine (isColumn_as (k : Int) true his V2).mono ?_
     rintro e W1 ⟨rfl, hw1⟩
     rw [hw1]
     clear hw1 W1
     refine ⟨_, rfl, (Below.refl V2.heap.size V2), ?_⟩
     simp only [ptr, Act.put, zA]
     refine wpX_q (.bool true) rfl (by kernel_rfl) (fun v hW => rfl) ?_
     simp only [ptr, Act.put, zA]
     refine wpX_q (.pointer (some ⟨w.heap.size, 1, none⟩)) rfl (by kernel_rfl) (fun v hW => (xo_fld0 1 w.heap.size 1 (by kernel_rfl) rfl rfl)) ?_
     simp only [ptr, Act.put, zA]
     refine wpX_q (.int .i64 lo) rfl (by kernel_rfl) (fun v hW => (xo_load1 ⟨w.heap.size, 1, none⟩ _ (cells_at (heap_keep (heap_keep Fv0_1.out B1.out) hW) 1 rfl) Tryd.underlying3 rfl rfl rfl)) ?_
     simp only [ptr, Act.put, zA]
     refine wpX_q (.bool true) rfl (by kernel_rfl) (fun v hW => (xo_geqT .i64 lo 0 (by omega) rfl rfl rfl)) ?_
     simp only [ptr, Act.put, zA]
     refine wpX_q (.bool true) rfl (by kernel_rfl) (fun v hW => rfl) ?_
     simp only [ptr, Act.put, zA]
     refine wpX_q (.bool true) rfl (by kernel_rfl) (fun v hW => rfl) ?_
     simp only [ptr, Act.put, zA]
     refine wpX_q (.pointer (some ⟨w.heap.size, 1, none⟩)) rfl (by kernel_rfl) (fun v hW => (xo_fld0 1 w.heap.size 1 (by kernel_rfl) rfl rfl)) ?_
     simp only [ptr, Act.put, zA]
     refine wpX_q (.int .i64 lo) rfl (by kernel_rfl) (fun v hW => (xo_load1 ⟨w.heap.size, 1, none⟩ _ (cells_at (heap_keep (heap_keep Fv0_1.out B1.out) hW) 1 rfl) Tryd.underlying3 rfl rfl rfl)) ?_
     simp only [ptr, Act.put, zA]
     refine wpX_q (.pointer (some ⟨w.heap.size, 2, none⟩)) rfl (by kernel_rfl) (fun v hW => (xo_fld0 2 w.heap.size 2 (by kernel_rfl) rfl rfl)) ?_
     simp only [ptr, Act.put, zA]
     refine wpX_q (.int .i64 hi) rfl (by kernel_rfl) (fun v hW => (xo_load1 ⟨w.heap.size, 2, none⟩ _ (cells_at (heap_keep (heap_keep Fv0_1.out B1.out) hW) 2 rfl) Tryd.underlying3 rfl rfl rfl)) ?_
     simp only [ptr, Act.put, zA]
     refine wpX_q (.bool true) rfl (by kernel_rfl) (fun v hW => (xo_leqT .i64 lo hi (by omega) rfl rfl rfl)) ?_
     simp only [ptr, Act.put, zA]
     refine wpX_q (.bool true) rfl (by kernel_rfl) (fun v hW => rfl) ?_
     simp only [ptr, Act.put, zA]
     refine wpX_q (.bool true) rfl (by kernel_rfl) (fun v hW => rfl) ?_
     simp only [ptr, Act.put, zA]
     refine wpX_q (.pointer (some ⟨w.heap.size, 2, none⟩)) rfl (by kernel_rfl) (fun v hW => (xo_fld0 2 w.heap.size 2 (by kernel_rfl) rfl rfl)) ?_
     simp only [ptr, Act.put, zA]
     refine wpX_q (.int .i64 hi) rfl (by kernel_rfl) (fun v hW => (xo_load1 ⟨w.heap.size, 2, none⟩ _ (cells_at (heap_keep (heap_keep Fv0_1.out B1.out) hW) 2 rfl) Tryd.underlying3 rfl rfl rfl)) ?_
     simp only [ptr, Act.put, zA]
     refine wpX_q (.pointer (some ⟨w.heap.size, 0, none⟩)) rfl (by kernel_rfl) (fun v hW => (xo_fld0 0 w.heap.size 0 (by kernel_rfl) rfl rfl)) ?_
     simp only [ptr, Act.put, zA]
     refine wpX_q (.int .i64 (k : Int)) rfl (by kernel_rfl) (fun v hW => (xo_load1 ⟨w.heap.size, 0, none⟩ _ (cells_at (heap_keep (heap_keep Fv0_1.out B1.out) hW) 0 rfl) Tryd.underlying3 rfl rfl rfl)) ?_
     simp only [ptr, Act.put, zA]
     refine wpX_q (.pointer (some ⟨1, k * 2, none⟩)) rfl (by kernel_rfl) (fun v hW => (xc_iad k (by omega) rfl rfl rfl)) ?_
     simp only [ptr, Act.put, zA]
     refine wpX_q (.pointer (some ⟨1, k * 2 + 1, none⟩)) rfl (by kernel_rfl) (fun v hW => (xo_fld 1 1 (k * 2) 1 (by kernel_rfl) rfl rfl)) ?_
     simp only [ptr, Act.put, zA]
     have C0_2 := zb B0 B1
     refine wpX_q (.int .i64 (Qu.maxN k : Int)) rfl (by kernel_rfl) (fun v hW => (xo_load1 ⟨1, k * 2 + 1, none⟩ _ (Gc.max ((HG.out.keep C0_2.out).keep hW) k (by omega)) Tryd.underlying3 rfl rfl rfl)) ?_
     simp only [ptr, Act.put, zA]
     refine wpX_q (.bool false) rfl (by kernel_rfl) (fun v hW => (xo_leqF .i64 hi ((Qu.maxN k : Nat) : Int) (by omega) rfl rfl rfl)) ?_
     simp only [ptr, Act.put, zA]
     refine wpX_q (.bool false) rfl (by kernel_rfl) (fun v hW => rfl) ?_
     simp only [ptr, Act.put, zA]
     refine wpX_q (.bool false) rfl (by kernel_rfl) (fun v hW => rfl) ?_
     simp only [ptr, Act.put, zA]
     refine wpX_nil ?_
     obtain rfl : b = false := by rw [← hb, hme] <;> simp <;> omega
     have hbf := C0_2.out
     go_wp2_with fail
     go_ret
     exact ⟨rfl, hbf⟩
   ·try simp only [List.append_eq, List.cons_append, List.nil_append]
    refine wp_ordX (.q 0 (.q 1 (.one 2 (.q 3 (.q 4 (.q 5 (.q 6 (.q 7 (.q 8 (.q 9 (.q 10 (.q 11 (.q 12 (.q 13 (.q 14 (.q 15 (.q 16 (.q 17 (.q 18 (.q 19 (.q 20 (.q 21 (.q 22 (.q 23 (.q 24 (.q 25 .nil)))))))))))))))))))))))))) (by kernel_rfl) (by kernel_rfl) (fun _ _ dt _ _ h => by first | exact h.elim | (cases dt <;> exact h)) (by kernel_rfl) (by kernel_rfl) (fun V2 hb => ?_)
    have B1 := zh hb
    clear hb
    refine wpX_q (.pointer (some ⟨w.heap.size, 0, none⟩)) rfl (by kernel_rfl) (fun v hW => (xo_fld0 0 w.heap.size 0 (by kernel_rfl) rfl rfl)) ?_
    simp only [ptr, Act.put, zA]
    refine wpX_q (.int .i64 (k : Int)) rfl (by kernel_rfl) (fun v hW => (xo_load1 ⟨w.heap.size, 0, none⟩ _ (cells_at (heap_keep (heap_keep Fv0_1.out B1.out) hW) 0 rfl) Tryd.underlying3 rfl rfl rfl)) ?_
    simp only [ptr, Act.put, zA]
    refine wpX_one rfl (by kernel_rfl) ?_
    refine hOp_call 55 Tryd.func55 (by kernel_rfl) (by kernel_rfl) _ _ #[.int .i64 (k : Int)] rfl (by kernel_rfl) ?_
    refine (isColumn_as (k : Int) true his V2).mono ?_
    rintro e W1 ⟨rfl, hw1⟩
    rw [hw1]
    clear hw1 W1
    refine ⟨_, rfl, (Below.refl V2.heap.size V2), ?_⟩
    simp only [ptr, Act.put, zA]
    refine wpX_q (.bool true) rfl (by kernel_rfl) (fun v hW => rfl) ?_
    simp only [ptr, Act.put, zA]
    refine wpX_q (.pointer (some ⟨w.heap.size, 1, none⟩)) rfl (by kernel_rfl) (fun v hW => (xo_fld0 1 w.heap.size 1 (by kernel_rfl) rfl rfl)) ?_
    simp only [ptr, Act.put, zA]
    refine wpX_q (.int .i64 lo) rfl (by kernel_rfl) (fun v hW => (xo_load1 ⟨w.heap.size, 1, none⟩ _ (cells_at (heap_keep (heap_keep Fv0_1.out B1.out) hW) 1 rfl) Tryd.underlying3 rfl rfl rfl)) ?_
    simp only [ptr, Act.put, zA]
    refine wpX_q (.bool true) rfl (by kernel_rfl) (fun v hW => (xo_geqT .i64 lo 0 (by omega) rfl rfl rfl)) ?_
    simp only [ptr, Act.put, zA]
    refine wpX_q (.bool true) rfl (by kernel_rfl) (fun v hW => rfl) ?_
    simp only [ptr, Act.put, zA]
    refine wpX_q (.bool true) rfl (by kernel_rfl) (fun v hW => rfl) ?_
    simp only [ptr, Act.put, zA]
    refine wpX_q (.pointer (some ⟨w.heap.size, 1, none⟩)) rfl (by kernel_rfl) (fun v hW => (xo_fld0 1 w.heap.size 1 (by kernel_rfl) rfl rfl)) ?_
    simp only [ptr, Act.put, zA]
    refine wpX_q (.int .i64 lo) rfl (by kernel_rfl) (fun v hW => (xo_load1 ⟨w.heap.size, 1, none⟩ _ (cells_at (heap_keep (heap_keep Fv0_1.out B1.out) hW) 1 rfl) Tryd.underlying3 rfl rfl rfl)) ?_
    simp only [ptr, Act.put, zA]
    refine wpX_q (.pointer (some ⟨w.heap.size, 2, none⟩)) rfl (by kernel_rfl) (fun v hW => (xo_fld0 2 w.heap.size 2 (by kernel_rfl) rfl rfl)) ?_
    simp only [ptr, Act.put, zA]
    refine wpX_q (.int .i64 hi) rfl (by kernel_rfl) (fun v hW => (xo_load1 ⟨w.heap.size, 2, none⟩ _ (cells_at (heap_keep (heap_keep Fv0_1.out B1.out) hW) 2 rfl) Tryd.underlying3 rfl rfl rfl)) ?_
    simp only [ptr, Act.put, zA]
    refine wpX_q (.bool false) rfl (by kernel_rfl) (fun v hW => (xo_leqF .i64 lo hi (by omega) rfl rfl rfl)) ?_
    simp only [ptr, Act.put, zA]
    refine wpX_q (.bool false) rfl (by kernel_rfl) (fun v hW => rfl) ?_
    simp only [ptr, Act.put, zA]
    refine wpX_q (.bool false) rfl (by kernel_rfl) (fun v hW => rfl) ?_
    simp only [ptr, Act.put, zA]
    refine wpX_skip rfl (by kernel_rfl) ?_
    try simp only [ptr, Act.put, zA]
    refine wpX_skip rfl (by kernel_rfl) ?_
    try simp only [ptr, Act.put, zA]
    refine wpX_skip rfl (by kernel_rfl) ?_
    try simp only [ptr, Act.put, zA]
    refine wpX_skip rfl (by kernel_rfl) ?_
    try simp only [ptr, Act.put, zA]
    refine wpX_skip rfl (by kernel_rfl) ?_
    try simp only [ptr, Act.put, zA]
    refine wpX_skip rfl (by kernel_rfl) ?_
    try simp only [ptr, Act.put, zA]
    refine wpX_skip rfl (by kernel_rfl) ?_
    try simp only [ptr, Act.put, zA]
    refine wpX_skip rfl (by kernel_rfl) ?_
    try simp only [ptr, Act.put, zA]
    refine wpX_q (.bool false) rfl (by kernel_rfl) (fun v hW => rfl) ?_
    simp only [ptr, Act.put, zA]
    refine wpX_q (.bool false) rfl (by kernel_rfl) (fun v hW => rfl) ?_
    simp only [ptr, Act.put, zA]
    refine wpX_nil ?_
    obtain rfl : b = false := by rw [← hb, hme] <;> simp <;> omega
    have C0_2 := zb B0 B1
    have hbf := C0_2.out
    go_wp2_with fail
    go_ret
    exact ⟨rfl, hbf⟩
  ·try simp only [List.append_eq, List.cons_append, List.nil_append]
   refine wp_ordX (.q 0 (.q 1 (.one 2 (.q 3 (.q 4 (.q 5 (.q 6 (.q 7 (.q 8 (.q 9 (.q 10 (.q 11 (.q 12 (.q 13 (.q 14 (.q 15 (.q 16 (.q 17 (.q 18 (.q 19 (.q 20 (.q 21 (.q 22 (.q 23 (.q 24 (.q 25 .nil)))))))))))))))))))))))))) (by kernel_rfl) (by kernel_rfl) (fun _ _ dt _ _ h => by first | exact h.elim | (cases dt <;> exact h)) (by kernel_rfl) (by kernel_rfl) (fun V2 hb => ?_)
   have B1 := zh hb
   clear hb
   refine wpX_q (.pointer (some ⟨w.heap.size, 0, none⟩)) rfl (by kernel_rfl) (fun v hW => (xo_fld0 0 w.heap.size 0 (by kernel_rfl) rfl rfl)) ?_
   simp only [ptr, Act.put, zA]
   refine wpX_q (.int .i64 (k : Int)) rfl (by kernel_rfl) (fun v hW => (xo_load1 ⟨w.heap.size, 0, none⟩ _ (cells_at (heap_keep (heap_keep Fv0_1.out B1.out) hW) 0 rfl) Tryd.underlying3 rfl rfl rfl)) ?_
   simp only [ptr, Act.put, zA]
   refine wpX_one rfl (by kernel_rfl) ?_
   refine hOp_call 55 Tryd.func55 (by kernel_rfl) (by kernel_rfl) _ _ #[.int .i64 (k : Int)] rfl (by kernel_rfl) ?_
   refine (isColumn_as (k : Int) true his V2).mono ?_
   rintro e W1 ⟨rfl, hw1⟩
   rw [hw1]
   clear hw1 W1
   refine ⟨_, rfl, (Below.refl V2.heap.size V2), ?_⟩
   simp only [ptr, Act.put, zA]
   refine wpX_q (.bool true) rfl (by kernel_rfl) (fun v hW => rfl) ?_
   simp only [ptr, Act.put, zA]
   refine wpX_q (.pointer (some ⟨w.heap.size, 1, none⟩)) rfl (by kernel_rfl) (fun v hW => (xo_fld0 1 w.heap.size 1 (by kernel_rfl) rfl rfl)) ?_
   simp only [ptr, Act.put, zA]
   refine wpX_q (.int .i64 lo) rfl (by kernel_rfl) (fun v hW => (xo_load1 ⟨w.heap.size, 1, none⟩ _ (cells_at (heap_keep (heap_keep Fv0_1.out B1.out) hW) 1 rfl) Tryd.underlying3 rfl rfl rfl)) ?_
   simp only [ptr, Act.put, zA]
   refine wpX_q (.bool false) rfl (by kernel_rfl) (fun v hW => (xo_geqF .i64 lo 0 (by omega) rfl rfl rfl)) ?_
   simp only [ptr, Act.put, zA]
   refine wpX_q (.bool false) rfl (by kernel_rfl) (fun v hW => rfl) ?_
   simp only [ptr, Act.put, zA]
   refine wpX_q (.bool false) rfl (by kernel_rfl) (fun v hW => rfl) ?_
   simp only [ptr, Act.put, zA]
   refine wpX_skip rfl (by kernel_rfl) ?_
   try simp only [ptr, Act.put, zA]
   refine wpX_skip rfl (by kernel_rfl) ?_
   try simp only [ptr, Act.put, zA]
   refine wpX_skip rfl (by kernel_rfl) ?_
   try simp only [ptr, Act.put, zA]
   refine wpX_skip rfl (by kernel_rfl) ?_
   try simp only [ptr, Act.put, zA]
   refine wpX_skip rfl (by kernel_rfl) ?_
   try simp only [ptr, Act.put, zA]
   refine wpX_q (.bool false) rfl (by kernel_rfl) (fun v hW => rfl) ?_
   simp only [ptr, Act.put, zA]
   refine wpX_q (.bool false) rfl (by kernel_rfl) (fun v hW => rfl) ?_
   simp only [ptr, Act.put, zA]
   refine wpX_skip rfl (by kernel_rfl) ?_
   try simp only [ptr, Act.put, zA]
   refine wpX_skip rfl (by kernel_rfl) ?_
   try simp only [ptr, Act.put, zA]
   refine wpX_skip rfl (by kernel_rfl) ?_
   try simp only [ptr, Act.put, zA]
   refine wpX_skip rfl (by kernel_rfl) ?_
   try simp only [ptr, Act.put, zA]
   refine wpX_skip rfl (by kernel_rfl) ?_
   try simp only [ptr, Act.put, zA]
   refine wpX_skip rfl (by kernel_rfl) ?_
   try simp only [ptr, Act.put, zA]
   refine wpX_skip rfl (by kernel_rfl) ?_
   try simp only [ptr, Act.put, zA]
   refine wpX_skip rfl (by kernel_rfl) ?_
   try simp only [ptr, Act.put, zA]
   refine wpX_q (.bool false) rfl (by kernel_rfl) (fun v hW => rfl) ?_
   simp only [ptr, Act.put, zA]
   refine wpX_q (.bool false) rfl (by kernel_rfl) (fun v hW => rfl) ?_
   simp only [ptr, Act.put, zA]
   refine wpX_nil ?_
   obtain rfl : b = false := by rw [← hb, hme] <;> simp <;> omega
   have C0_2 := zb B0 B1
   have hbf := C0_2.out
   go_wp2_with fail
   go_ret
   exact ⟨rfl, hbf⟩
set_option maxRecDepth 100000 in
set_option maxHeartbeats 32000000 in
theorem validFilter_as (A : Option Addr) (n c : Nat) (cs : List Qu.Ci) (b : Bool) (hb : Qu.vL cs = b) (w : World) (hG : Gc w) (hL : Sg ciC 3 w A n c cs) :
  Calls Tryd.prog 43 #[.slice A n c] w fun e w' => e = .returned (.bool b) ∧ Below w.heap.size w w' := by
 have HL := zh hL
 have hln := hL.len
 have hlc := hL.cap
 have hlt := hL.top
 have HG := zh hG
 clear hL hG
 go_enter Tryd.func43, Tryd.ntmps43
 go_upto_region 1 with fail
 refine wp_region_lit ?_
 refine zr (.slice A n c) w rfl ?_
 simp only [Act.put, zA]
 refine zr (.int .i64 (n : Int)) w (xo_len A n c Tryd.underlying44 rfl rfl) ?_
 simp only [Act.put, zA]
 refine zr (.int .i64 0) w rfl ?_
 simp only [Act.put, zA]
 refine wpList_nil ?_
 have O0 := (Below.refl w.heap.size w)
 have B0 := zh (Below.refl w.heap.size w)
 go_wp2_with fail
 go_loopw [7] (fun p wr => ∃ i : Nat, i ≤ n ∧ p = .int .i64 i ∧ (cs.take i).all Qu.vC = true ∧ Below w.heap.size w wr) (fun p _ => n - (intOf p).toNat)
 case atStart => exact ⟨0, Nat.zero_le _, rfl, (by simp), O0⟩
 case round =>
  clear O0
  obtain ⟨wo, rfl⟩ : ∃ wo : World, wo = wr := ⟨_, rfl⟩
  obtain ⟨i, hi, rfl, hHALL, hb0⟩ := hrel
  have hbr := hb0
  clear B0
  have B0 := zh hbr
  clear hbr
  have HALL := zh hHALL
  clear hb0 hHALL
  by_cases hlt2 : i < n
  ·have hci2 : ((i : Int) < (n : Int)) := by omega
   obtain ⟨e0, hx⟩ : ∃ e, cs[i]? = some e := ⟨_, List.getElem?_eq_getElem (by omega)⟩
   obtain ⟨col, lo, hi2⟩ := e0
   have HE := zh hx
   clear hx
   go_upto_region 2 with fail
   refine wp_region_lit ?_
   refine zr (.bool true) wo (xo_lssT .i64 (i : Int) (n : Int) (by omega) rfl rfl rfl) ?_
   simp only [Act.put, zA]
   refine wpList_nil ?_
   go_upto_region 3 with fail
   refine wp_region_lit ?_
   refine zr (.pointer (some (gad A (i * 3)))) wo (xg_idx .i64 (HL.out.keep B0.out) HE.out Tryd.underlying44 (by kernel_rfl) rfl rfl rfl) ?_
   simp only [Act.put, zA]
   refine zr (.agg #[.int .i64 col, .int .i64 lo, .int .i64 hi2]) wo (xg_loadE (E := ciC) (HL.out.keep B0.out) HE.out Tryd.underlying49 rfl (by kernel_rfl) rfl rfl) ?_
   simp only [Act.put, zA]
   refine wpList_new #[.int .i64 0, .int .i64 0, .int .i64 0] 49 (by kernel_rfl) (xo_alloc #[.int .i64 0, .int .i64 0, .int .i64 0] (by kernel_rfl) rfl) ?_
   intro b4 V2 hge h0 hb
   have Ge3 : Hid (wo.heap.size ≤ b4) := zh hge
   have B1 := zh hb
   have Fv4_4 : Hid (V2.heap[b4]? = some (.cells #[.int .i64 0, .int .i64 0, .int .i64 0] 49 (0, 0))) := zh (h0)
   have Lt5 : Hid (b4 < V2.heap.size) := zh (xp_lt Fv4_4.out)
   clear hge h0 hb
   simp only [ptr, Act.put, zA]
   refine wpList_storeW b4 #[.int .i64 0, .int .i64 0, .int .i64 0] #[.int .i64 col, .int .i64 lo, .int .i64 hi2] 49 (by kernel_rfl) Fv4_4.out (xo_storeW b4 #[.int .i64 0, .int .i64 0, .int .i64 0] #[.int .i64 col, .int .i64 lo, .int .i64 hi2] Fv4_4.out (by kernel_rfl) rfl (by simp [Value.oneCell']) rfl rfl rfl) ?_
   intro X2_6 h1 hfar hbel hsz
   have hbr := hbel _ _ Ge3.out B1.out
   clear B1
   have B1 := zh hbr
   clear hbr
   clear Fv4_4
   have Fv4_4 : Hid (X2_6.heap[b4]? = some (.cells #[.int .i64 col, .int .i64 lo, .int .i64 hi2] 49 (0, 0))) := zh (h1)
   have HszX2_6 := zh hsz
   clear h1 hfar hbel hsz
   simp only [ptr, Act.put, zA]
   refine wpList_nil ?_
   cases hm : Qu.vC ⟨col, lo, hi2⟩ with
   | false =>
    go_upto_region 4 with fail
    refine wp_region_lit ?_
    refine zr (.agg #[.int .i64 col, .int .i64 lo, .int .i64 hi2]) X2_6 (xo_loadW b4 _ Fv4_4.out Tryd.underlying49 rfl (by kernel_rfl) rfl rfl) ?_
    simp only [Act.put, zA]
    have C0_2 := zb B0 B1
    refine wpList_call (by kernel_rfl) 56 Tryd.func56 (by kernel_rfl) (by kernel_rfl) _ _ #[.agg #[.int .i64 col, .int .i64 lo, .int .i64 hi2]] rfl (by kernel_rfl) ?_
    refine (validCond_as col lo hi2 false hm X2_6 (HG.out.keep C0_2.out)).mono ?_
    rintro e V3 ⟨rfl, hb⟩
    have B2 := zh hb
    clear hb 
    refine ⟨_, rfl, ?_⟩
    simp only [Act.put, zA]
    refine zr (.bool true) V3 rfl ?_
    simp only [Act.put, zA]
    refine wpList_nil ?_
    go_upto_region 5 with fail
    refine wp_region_lit ?_
    refine zr (.bool false) V3 rfl ?_
    simp only [Act.put, zA]
    refine wpList_nil ?_
    obtain rfl : b = false := by rw [← hb, Qu.vL, all_false HE.out hm]; rfl
    have C0_3 := zb C0_2 B2
    have hbf := C0_3.out
    go_wp2_with fail
    go_ret
    exact ⟨rfl, hbf⟩
   | true =>
    go_upto_region 4 with fail
    refine wp_region_lit ?_
    refine zr (.agg #[.int .i64 col, .int .i64 lo, .int .i64 hi2]) X2_6 (xo_loadW b4 _ Fv4_4.out Tryd.underlying49 rfl (by kernel_rfl) rfl rfl) ?_
    simp only [Act.put, zA]
    have C0_2 := zb B0 B1
    refine wpList_call (by kernel_rfl) 56 Tryd.func56 (by kernel_rfl) (by kernel_rfl) _ _ #[.agg #[.int .i64 col, .int .i64 lo, .int .i64 hi2]] rfl (by kernel_rfl) ?_
    refine (validCond_as col lo hi2 true hm X2_6 (HG.out.keep C0_2.out)).mono ?_
    rintro e V3 ⟨rfl, hb⟩
    have B2 := zh hb
    clear hb 
    refine ⟨_, rfl, ?_⟩
    simp only [Act.put, zA]
    refine zr (.bool false) V3 rfl ?_
    simp only [Act.put, zA]
    refine wpList_nil ?_
    go_upto_region 6 with fail
    refine wp_region_lit ?_
    refine zr (.int .i64 ((i + 1 : Nat) : Int)) V3 (xo_addI (i : Int) 1 ((i + 1 : Nat) : Int) (by omega) (by omega) (by omega) rfl rfl rfl) ?_
    simp only [Act.put, zA]
    refine zr (.int .i64 ((i + 1 : Nat) : Int)) V3 rfl ?_
    simp only [Act.put, zA]
    refine wpList_nil ?_
    have hal := all_take HE.out HALL.out hm
    have C0_3 := zb C0_2 B2
    have hq7 := C0_3.out
    go_wp2_with fail
    go_roundw
    case rel => exact ⟨i + 1, by omega, by go_num, hal, hq7⟩
    case measure => simp [intOf]; omega
  ·have hci2 : ¬ ((i : Int) < (n : Int)) := by omega
   go_upto_region 2 with fail
   refine wp_region_lit ?_
   refine zr (.bool false) wo (xo_lssF .i64 (i : Int) (n : Int) (by omega) rfl rfl rfl) ?_
   simp only [Act.put, zA]
   refine wpList_nil ?_
   have hal : cs.all Qu.vC = true := by rw [← List.take_length (l := cs), show cs.length = i from by omega]; exact HALL.out
   by_cases h3 : n ≤ 3
   ·have hci3 : ((n : Int) ≤ 3) := by omega
    go_upto_region 7 with fail
    refine wp_region_lit ?_
    refine zr (.slice A n c) wo rfl ?_
    simp only [Act.put, zA]
    refine zr (.int .i64 (n : Int)) wo (xo_len A n c Tryd.underlying44 rfl rfl) ?_
    simp only [Act.put, zA]
    refine zr (.bool true) wo (xo_leqT .i64 (n : Int) 3 (by omega) rfl rfl rfl) ?_
    simp only [Act.put, zA]
    refine zr (.bool true) wo rfl ?_
    simp only [Act.put, zA]
    refine wpList_nil ?_
    obtain rfl : b = true := by rw [← hb, Qu.vL, hal]; simp <;> omega
    have hbf := B0.out
    go_wp2_with fail
    go_ret
    exact ⟨rfl, hbf⟩
   ·have hci3 : ¬ ((n : Int) ≤ 3) := by omega
    go_upto_region 7 with fail
    refine wp_region_lit ?_
    refine zr (.slice A n c) wo rfl ?_
    simp only [Act.put, zA]
    refine zr (.int .i64 (n : Int)) wo (xo_len A n c Tryd.underlying44 rfl rfl) ?_
    simp only [Act.put, zA]
    refine zr (.bool false) wo (xo_leqF .i64 (n : Int) 3 (by omega) rfl rfl rfl) ?_
    simp only [Act.put, zA]
    refine zr (.bool false) wo rfl ?_
    simp only [Act.put, zA]
    refine wpList_nil ?_
    obtain rfl : b = false := by rw [← hb, Qu.vL, hal]; simp <;> omega
    have hbf := B0.out
    go_wp2_with fail
    go_ret
    exact ⟨rfl, hbf⟩
end Go.Proofs.YtbecajihgbbgjaaDoor

