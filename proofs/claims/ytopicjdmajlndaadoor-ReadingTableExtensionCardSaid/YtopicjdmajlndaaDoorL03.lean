/- Several texts in one: Ke, Qa, Qb, Qc. -/
import Derived.Test.YtopicjdmajlndaaDoorL02
import Derived.Laws.CopyRow
import Derived.Laws.IdiomCopy
import Derived.Great.FillDense
import Derived.Great.BuildSlice
import Derived.RangeFuncCalls
import Derived.Deep.Cut
import Derived.Deep.CutRange
import Derived.Deep.RegionWith
import Derived.TacticsInMore
import Derived.LoopNIn
import Derived.LoopIn
import Derived.RangeFuncNested
import Derived.RangeFuncBound
import Derived.RangeFuncLeaves
import Derived.RangeFuncBox
import Derived.Shelf.RegionOpen
import Derived.Laws.EntriesVeiled
namespace Go.Proofs.YtopicjdmajlndaaDoor.K
set_option linter.unusedVariables false
set_option linter.unusedSimpArgs false
set_option linter.unusedSectionVars false
set_option maxRecDepth 8000
open Go.RowKit
section
variable {P : Program} {ev : Operand → Value} {o : Oper} {w : World} {ty t : TypeId} {x y z : Operand}
theorem wrapI {z : Int} (h1 : -9223372036854775808 ≤ z) (h2 : z < 9223372036854775808) : IntKind.i64.wrap z = z := by rw [IntKind.wrap_i64]; omega
theorem xo_arith (b : BinOp) (k : IntKind) (u v r : Int) (hr : (Op.intArith b k u v).run P w = .ok (.int k r) w) (hb : b = .add ∨ b = .sub ∨ b = .mul) (ho : o.op = .binOp b ty x y t) (hx : ev x = .int k u) (hy : ev y = .int k v) :
    (execOp ev o).run P w = .ok (.value (.int k r)) w := by
  unfold execOp
  rcases hb with rfl | rfl | rfl <;> simp [ho, hx, hy, eqGuard, binOp, Sem.run_bind, hr]
theorem xo_add (k : IntKind) (u v r : Int) (h : k.wrap (u + v) = r) (ho : o.op = .binOp .add ty x y t) (hx : ev x = .int k u) (hy : ev y = .int k v) : (execOp ev o).run P w = .ok (.value (.int k r)) w :=
  xo_arith .add k u v r (by rw [← h]; rfl) (.inl rfl) ho hx hy
theorem xo_sub (k : IntKind) (u v r : Int) (h : k.wrap (u - v) = r) (ho : o.op = .binOp .sub ty x y t) (hx : ev x = .int k u) (hy : ev y = .int k v) : (execOp ev o).run P w = .ok (.value (.int k r)) w :=
  xo_arith .sub k u v r (by rw [← h]; rfl) (.inr (.inl rfl)) ho hx hy
theorem xo_mul (k : IntKind) (u v r : Int) (h : k.wrap (u * v) = r) (ho : o.op = .binOp .mul ty x y t) (hx : ev x = .int k u) (hy : ev y = .int k v) : (execOp ev o).run P w = .ok (.value (.int k r)) w :=
  xo_arith .mul k u v r (by rw [← h]; rfl) (.inr (.inr rfl)) ho hx hy
theorem xo_addI (u v r : Int) (h : u + v = r) (h1 : -9223372036854775808 ≤ r) (h2 : r < 9223372036854775808) (ho : o.op = .binOp .add ty x y t) (hx : ev x = .int .i64 u) (hy : ev y = .int .i64 v) : (execOp ev o).run P w = .ok (.value (.int .i64 r)) w :=
  xo_add _ u v r (by rw [h, wrapI h1 h2]) ho hx hy
theorem xo_subI (u v r : Int) (h : u - v = r) (h1 : -9223372036854775808 ≤ r) (h2 : r < 9223372036854775808) (ho : o.op = .binOp .sub ty x y t) (hx : ev x = .int .i64 u) (hy : ev y = .int .i64 v) : (execOp ev o).run P w = .ok (.value (.int .i64 r)) w :=
  xo_sub _ u v r (by rw [h, wrapI h1 h2]) ho hx hy
theorem xo_mulI (u v r : Int) (h : u * v = r) (h1 : -9223372036854775808 ≤ r) (h2 : r < 9223372036854775808) (ho : o.op = .binOp .mul ty x y t) (hx : ev x = .int .i64 u) (hy : ev y = .int .i64 v) : (execOp ev o).run P w = .ok (.value (.int .i64 r)) w :=
  xo_mul _ u v r (by rw [h, wrapI h1 h2]) ho hx hy
theorem xo_div (b : BinOp) (k : IntKind) (u v r : Int) (hv : v ≠ 0) (hb : (b = .quo ∧ k.wrap (u.tdiv v) = r) ∨ (b = .rem ∧ u.tmod v = r)) (ho : o.op = .binOp b ty x y t) (hx : ev x = .int k u) (hy : ev y = .int k v) :
    (execOp ev o).run P w = .ok (.value (.int k r)) w := by
  unfold execOp
  rcases hb with ⟨rfl, rfl⟩ | ⟨rfl, rfl⟩ <;> simp [ho, hx, hy, eqGuard, binOp, Sem.run_bind, Op.intDiv, hv]
theorem xo_remN (k : IntKind) (u v r : Nat) (hv : 1 ≤ v) (h : u % v = r) (ho : o.op = .binOp .rem ty x y t) (hx : ev x = .int k (u : Int)) (hy : ev y = .int k (v : Int)) : (execOp ev o).run P w = .ok (.value (.int k (r : Int))) w :=
  xo_div .rem k (u : Int) (v : Int) (r : Int) (by omega) (.inr ⟨rfl, by rw [Int.tmod_eq_emod_of_nonneg (by omega), ← h]; simp⟩) ho hx hy
theorem xo_shrN (k kk : IntKind) (u n r : Nat) (hn : n < k.bits) (h : u / 2 ^ n = r) (ho : o.op = .binOp .shr ty x y t) (hx : ev x = .int k (u : Int)) (hy : ev y = .int kk (n : Int)) : (execOp ev o).run P w = .ok (.value (.int k (r : Int))) w := by
  have e : (u : Int).fdiv (2 ^ n) = ((u / 2 ^ n : Nat) : Int) := by
    rw [Int.fdiv_eq_ediv_of_nonneg _ (by exact Int.le_of_lt (Int.pow_pos (by decide)))]
    simp
  have hm : min (n : Int).toNat k.bits = n := by rw [Int.toNat_natCast]; omega
  have hs : (Op.shift .shr k (u : Int) kk (n : Int)).run P w = .ok (.int k (r : Int)) w := by
    unfold Op.shift
    rw [if_neg (by omega), hm]
    show (Pure.pure (Value.int k ((u : Int).fdiv (2 ^ n))) : Sem Value).run P w = _
    rw [e, h]
    rfl
  unfold execOp
  simp [ho, hx, hy, eqGuard, binOp, Sem.run_bind, hs]
theorem xo_cmp (b : BinOp) (k : IntKind) (u v : Int) (r : Bool) (hr : (b = .eql ∧ (u == v) = r) ∨ (b = .neq ∧ (u != v) = r) ∨ (b = .lss ∧ decide (u < v) = r) ∨ (b = .leq ∧ decide (u ≤ v) = r) ∨ (b = .gtr ∧ decide (u > v) = r) ∨ (b = .geq ∧ decide (u ≥ v) = r))
    (ho : o.op = .binOp b ty x y t) (hx : ev x = .int k u) (hy : ev y = .int k v) : (execOp ev o).run P w = .ok (.value (.bool r)) w := by
  unfold execOp
  rcases hr with ⟨rfl, rfl⟩ | ⟨rfl, rfl⟩ | ⟨rfl, rfl⟩ | ⟨rfl, rfl⟩ | ⟨rfl, rfl⟩ | ⟨rfl, rfl⟩ <;> simp [ho, hx, hy, eqGuard, binOp, Sem.run_bind, Op.intCmp]
theorem xo_eqlT (k : IntKind) (u v : Int) (h : u = v) (ho : o.op = .binOp .eql ty x y t) (hx : ev x = .int k u) (hy : ev y = .int k v) : (execOp ev o).run P w = .ok (.value (.bool true)) w := xo_cmp _ k u v _ (.inl ⟨rfl, by simp [h]⟩) ho hx hy
theorem xo_eqlF (k : IntKind) (u v : Int) (h : u ≠ v) (ho : o.op = .binOp .eql ty x y t) (hx : ev x = .int k u) (hy : ev y = .int k v) : (execOp ev o).run P w = .ok (.value (.bool false)) w := xo_cmp _ k u v _ (.inl ⟨rfl, by simp [h]⟩) ho hx hy
theorem xo_neqT (k : IntKind) (u v : Int) (h : u ≠ v) (ho : o.op = .binOp .neq ty x y t) (hx : ev x = .int k u) (hy : ev y = .int k v) : (execOp ev o).run P w = .ok (.value (.bool true)) w := xo_cmp _ k u v _ (.inr (.inl ⟨rfl, by simp [h]⟩)) ho hx hy
theorem xo_neqF (k : IntKind) (u v : Int) (h : u = v) (ho : o.op = .binOp .neq ty x y t) (hx : ev x = .int k u) (hy : ev y = .int k v) : (execOp ev o).run P w = .ok (.value (.bool false)) w := xo_cmp _ k u v _ (.inr (.inl ⟨rfl, by simp [h]⟩)) ho hx hy
theorem xo_lssT (k : IntKind) (u v : Int) (h : u < v) (ho : o.op = .binOp .lss ty x y t) (hx : ev x = .int k u) (hy : ev y = .int k v) : (execOp ev o).run P w = .ok (.value (.bool true)) w := xo_cmp _ k u v _ (.inr (.inr (.inl ⟨rfl, decide_eq_true h⟩))) ho hx hy
theorem xo_lssF (k : IntKind) (u v : Int) (h : ¬ u < v) (ho : o.op = .binOp .lss ty x y t) (hx : ev x = .int k u) (hy : ev y = .int k v) : (execOp ev o).run P w = .ok (.value (.bool false)) w := xo_cmp _ k u v _ (.inr (.inr (.inl ⟨rfl, decide_eq_false h⟩))) ho hx hy
theorem xo_leqT (k : IntKind) (u v : Int) (h : u ≤ v) (ho : o.op = .binOp .leq ty x y t) (hx : ev x = .int k u) (hy : ev y = .int k v) : (execOp ev o).run P w = .ok (.value (.bool true)) w := xo_cmp _ k u v _ (.inr (.inr (.inr (.inl ⟨rfl, decide_eq_true h⟩)))) ho hx hy
theorem xo_leqF (k : IntKind) (u v : Int) (h : ¬ u ≤ v) (ho : o.op = .binOp .leq ty x y t) (hx : ev x = .int k u) (hy : ev y = .int k v) : (execOp ev o).run P w = .ok (.value (.bool false)) w := xo_cmp _ k u v _ (.inr (.inr (.inr (.inl ⟨rfl, decide_eq_false h⟩)))) ho hx hy
theorem xo_gtrT (k : IntKind) (u v : Int) (h : u > v) (ho : o.op = .binOp .gtr ty x y t) (hx : ev x = .int k u) (hy : ev y = .int k v) : (execOp ev o).run P w = .ok (.value (.bool true)) w := xo_cmp _ k u v _ (.inr (.inr (.inr (.inr (.inl ⟨rfl, decide_eq_true h⟩))))) ho hx hy
theorem xo_gtrF (k : IntKind) (u v : Int) (h : ¬ u > v) (ho : o.op = .binOp .gtr ty x y t) (hx : ev x = .int k u) (hy : ev y = .int k v) : (execOp ev o).run P w = .ok (.value (.bool false)) w := xo_cmp _ k u v _ (.inr (.inr (.inr (.inr (.inl ⟨rfl, decide_eq_false h⟩))))) ho hx hy
theorem xo_geqT (k : IntKind) (u v : Int) (h : u ≥ v) (ho : o.op = .binOp .geq ty x y t) (hx : ev x = .int k u) (hy : ev y = .int k v) : (execOp ev o).run P w = .ok (.value (.bool true)) w := xo_cmp _ k u v _ (.inr (.inr (.inr (.inr (.inr ⟨rfl, decide_eq_true h⟩))))) ho hx hy
theorem xo_geqF (k : IntKind) (u v : Int) (h : ¬ u ≥ v) (ho : o.op = .binOp .geq ty x y t) (hx : ev x = .int k u) (hy : ev y = .int k v) : (execOp ev o).run P w = .ok (.value (.bool false)) w := xo_cmp _ k u v _ (.inr (.inr (.inr (.inr (.inr ⟨rfl, decide_eq_false h⟩))))) ho hx hy
theorem xo_cvt {src dst : TypeId} (k1 k : IntKind) (u r : Int) (h : k.wrap u = r) (hu : P.underlying dst = some (.int k)) (hs : P.underlying src = some (.int k1)) (ho : o.op = .convert src dst x) (hx : ev x = .int k1 u) : (execOp ev o).run P w = .ok (.value (.int k r)) w := by
  unfold execOp
  simp only [ho, hx, convert, Sem.run_bind]
  rw [run_underlying hs, Result.andThen_ok, run_underlying hu, Result.andThen_ok]
  simp only [Conv.intToInt, h]
  rfl
theorem xo_not (b : Bool) (ho : o.op = .unOp .not t x) (hx : ev x = .bool b) : (execOp ev o).run P w = .ok (.value (.bool !b)) w := by
  unfold execOp
  simp [ho, hx, Op.unary, Sem.run_bind]
theorem xo_len {e : TypeId} (A : Option Addr) (n c : Nat) (hu : P.underlying ty = some (.slice e)) (ho : o.op = .call { callee := .builtin .len, args := #[x], argTypes := #[ty] }) (hx : ev x = .slice A n c) : (execOp ev o).run P w = .ok (.value (.int .i64 (n : Int))) w := by
  unfold execOp
  simp only [ho, resolve, invoke, builtin, Builtin.len_, Sem.run_bind, Sem.run_pure, Result.andThen_ok, List.map_toArray, List.map_cons, List.map_nil, hx, List.getElem?_toArray, List.getElem?_cons_zero]
  rw [run_underlying hu, Result.andThen_ok]
  rfl
theorem xo_field (i g off : Nat) (fs : Array Field) (f : Field) (inf : TypeInfo) (hu : P.underlying ty = some (.struct fs)) (hf : fs[i]? = some f) (hi : P.info? f.type = some inf) (hs : inf.size ≠ 0) (ho : o.op = .fieldAddr ty x i) (hx : ev x = .pointer (some ⟨g, off, none⟩)) :
    (execOp ev o).run P w = .ok (.value (.pointer (some ⟨g, off + f.offset, none⟩))) w := by
  have hz : (sizeOf f.type).run P w = .ok inf.size w := by simp [sizeOf, typeInfo, Sem.run_bind, hi]
  unfold execOp
  simp only [ho, hx, Instr.fieldAt, Sem.run_bind]
  rw [run_underlying hu, Result.andThen_ok]
  simp only [hf, Sem.run_bind, Instr.sureAddr, Sem.run_pure, Result.andThen_ok, fieldPlace]
  rw [hz, Result.andThen_ok, if_neg hs]
  simp [Addr.add_mid]
/-- the field's place, as the program lays it out -/
def fldOK (P : Program) (ty : TypeId) (i j : Nat) : Bool :=
  match P.underlying ty with
  | some (.struct fs) => (match fs[i]? with
    | some f => f.offset == j && (match P.info? f.type with
      | some inf => inf.size != 0
      | none => false)
    | none => false)
  | _ => false
theorem xo_fld (i g off j : Nat) (h : fldOK P ty i j = true) (ho : o.op = .fieldAddr ty x i) (hx : ev x = .pointer (some ⟨g, off, none⟩)) : (execOp ev o).run P w = .ok (.value (.pointer (some ⟨g, off + j, none⟩))) w := by
  unfold fldOK at h
  split at h
  · rename_i fs hu
    split at h
    · rename_i f hf
      simp only [Bool.and_eq_true, beq_iff_eq] at h
      obtain ⟨rfl, h⟩ := h
      split at h
      · rename_i inf hi
        exact xo_field i g off fs f inf hu hf hi (by simpa using h) ho hx
      · cases h
    · cases h
  · cases h
theorem xo_fld0 (i g j : Nat) (h : fldOK P ty i j = true) (ho : o.op = .fieldAddr ty x i) (hx : ev x = .pointer (some ⟨g, 0, none⟩)) : (execOp ev o).run P w = .ok (.value (.pointer (some ⟨g, j, none⟩))) w := by
  have := xo_fld (w := w) i g 0 j h ho hx
  rw [Nat.zero_add] at this
  exact this
theorem xo_index {e : TypeId} (k : IntKind) (ad : Addr) (n c i s : Nat) (hi : i < n) (hu : P.underlying ty = some (.slice e)) (hs : (P.info? e).map (·.size) = some s) (ho : o.op = .indexAddr ty x y) (hx : ev x = .slice (some ad) n c) (hy : ev y = .int k (i : Int)) :
    (execOp ev o).run P w = .ok (.value (.pointer (some (ad.add (i * s))))) w := by
  cases hq : P.info? e with
  | none => simp [hq] at hs
  | some inf =>
    have hz : (sizeOf e).run P w = .ok s w := by simp [sizeOf, typeInfo, Sem.run_bind, hq]; simpa [hq] using hs
    unfold execOp
    simp only [ho, hx, hy, Instr.indexAt, asIntOf, Sem.run_bind, Sem.run_pure, Result.andThen_ok]
    rw [run_underlying hu, Result.andThen_ok]
    simp only [Sem.run_bind, Sem.run_pure, Result.andThen_ok]
    rw [run_underlying hu, Result.andThen_ok]
    simp only [Sem.run_bind, Sem.run_pure, Result.andThen_ok]
    rw [if_pos (by omega), Sem.run_bind, hz]
    simp
theorem xo_index1 {e : TypeId} (k : IntKind) (ad : Addr) (n c i : Nat) (hi : i < n) (hu : P.underlying ty = some (.slice e)) (hs : (P.info? e).map (·.size) = some 1) (ho : o.op = .indexAddr ty x y) (hx : ev x = .slice (some ad) n c) (hy : ev y = .int k (i : Int)) :
    (execOp ev o).run P w = .ok (.value (.pointer (some (ad.add i)))) w := by
  have h := xo_index (w := w) k ad n c i 1 hi hu hs ho hx hy
  rw [Nat.mul_one] at h
  exact h
theorem xo_load1 {d : TypeDesc} (a : Addr) (v : Value) (hc : w.cell? a = some v) (hu : P.underlying ty = some d) (hd : (match d with | .struct _ | .array _ _ => true | _ => false) = false) (ho : o.op = .load ty x) (hx : ev x = .pointer (some a)) : (execOp ev o).run P w = .ok (.value v) w := by
  unfold execOp
  simp only [ho, hx, Instr.loadAt, Instr.sureAddr, loadVar, Sem.run_bind, Sem.run_pure, Result.andThen_ok]
  rw [run_isAgg_plain hu hd]
  simp [hc]
theorem xo_loadR {d : TypeDesc} (b off : Nat) (cs : List Value) (hc : w.rangeAt b off cs) (hu : P.underlying ty = some d) (hd : d.isRow = true) (hi : (P.info? ty).map (·.size) = some cs.length) (ho : o.op = .load ty x) (hx : ev x = .pointer (some ⟨b, off, none⟩)) :
    (execOp ev o).run P w = .ok (.value (.agg cs.toArray)) w := by
  unfold execOp
  simp only [ho, hx, Sem.run_bind]
  rw [run_loadAt_mid w b off ty cs d hc hu hd hi]
  rfl
theorem xo_loadW {d : TypeDesc} {tt : TypeId} (g : Nat) (cs : Array Value) (hc : w.heap[g]? = some (.cells cs tt (0, 0))) (hu : P.underlying ty = some d) (hd : (match d with | .struct _ | .array _ _ => true | _ => false) = true) (hi : (P.info? ty).map (·.size) = some cs.size) (ho : o.op = .load ty x) (hx : ev x = .pointer (some ⟨g, 0, none⟩)) :
    (execOp ev o).run P w = .ok (.value (.agg cs)) w := by
  unfold execOp
  simp only [ho, hx, Instr.loadAt, Instr.sureAddr, Sem.run_bind, Sem.run_pure, Result.andThen_ok]
  rw [run_loadVar_row w g tt ty cs (0, 0) d hc hu hd hi]
  rfl
theorem xo_storeW {tt : TypeId} (g : Nat) (old cs : Array Value) (hc : w.heap[g]? = some (.cells old tt (0, 0))) (hi : (P.info? ty).map (·.size) = some cs.size) (hl : old.size = cs.size) (h1 : cs.all (·.oneCell') = true) (ho : o.op = .store ty x y) (hx : ev x = .pointer (some ⟨g, 0, none⟩)) (hy : ev y = .agg cs) :
    (execOp ev o).run P w = .ok .skip (w.setRow g cs) := by
  unfold execOp
  simp only [ho, hx, hy, Instr.storeAt, Instr.sureAddr, Sem.run_bind, Sem.run_pure, Result.andThen_ok]
  rw [run_storeVar_row w g tt ty old cs hc hi hl h1]
  rfl
theorem setCell_row (w : World) (g i : Nat) (cs : Array Value) (tt : TypeId) (fr : Nat × Nat) (v : Value) (hg : w.heap[g]? = some (.cells cs tt fr)) : (w.setCell ⟨g, i, none⟩ v).heap[g]? = some (.cells (cs.setIfInBounds i v) tt fr) := heap_setCell_at hg v
theorem xo_store1 {tt : TypeId} (g i : Nat) (cs : Array Value) (u v : Value) (hg : w.heap[g]? = some (.cells cs tt (0, 0))) (hi : cs[i]? = some u) (hz : (P.info? ty).map (·.size) = some 1) (h1 : v.oneCell' = true) (ho : o.op = .store ty x y) (hx : ev x = .pointer (some ⟨g, i, none⟩)) (hy : ev y = v) :
    (execOp ev o).run P w = .ok .skip (w.setCell ⟨g, i, none⟩ v) := by
  have hc : w.cell? ⟨g, i, none⟩ = some u := by rw [cell_of_row w g i cs tt (0, 0) hg]; exact hi
  have hfz : w.frozen? ⟨g, i, none⟩ = false := by simp [World.frozen?, hg]
  have hcell : v.cells = #[v] := by cases v <;> first | rfl | simp [Value.oneCell'] at h1
  cases hq : P.info? ty with
  | none => simp [hq] at hz
  | some inf =>
    have hs : inf.size = 1 := by simpa [hq] using hz
    unfold execOp
    simp only [ho, hx, hy, Instr.storeAt, Instr.sureAddr, Sem.run_bind, Sem.run_pure, Result.andThen_ok, storeVar, sizeOf, typeInfo, run_program, hq, hs, hcell]
    have ha : (⟨g, i, none⟩ : Addr).add 0 = ⟨g, i, none⟩ := by rw [Addr.add_mid, Nat.add_zero]
    simp [storeCells, Sem.run_bind, run_store P w _ v _ h1, ha, hc, hfz]
theorem xo_alloc (cs : Array Value) (hz : (zeroValue ty).run P w = .ok (.agg cs) w) (ho : o.op = .alloc ty) : (execOp ev o).run P w = .ok (.value (.pointer (some ⟨w.heap.size, 0, none⟩))) (w.alloc (.cells cs ty)) := by
  unfold execOp
  simp [ho, Instr.alloc, Sem.run_bind, hz, newVar, newRow, Value.cells]
theorem xo_alloc1 (v : Value) (h1 : v.oneCell' = true) (hz : (zeroValue ty).run P w = .ok v w) (ho : o.op = .alloc ty) : (execOp ev o).run P w = .ok (.value (.pointer (some ⟨w.heap.size, 0, none⟩))) (w.alloc (.cells #[v] ty)) := by
  have hcell : v.cells = #[v] := by cases v <;> first | rfl | simp [Value.oneCell'] at h1
  unfold execOp
  simp [ho, Instr.alloc, Sem.run_bind, hz, newVar, newRow, hcell]
end
end Go.Proofs.YtopicjdmajlndaaDoor.K

namespace Go.Proofs.YtopicjdmajlndaaDoor.K
set_option linter.unusedVariables false
set_option linter.unusedSimpArgs false
set_option linter.unusedSectionVars false
open Go.RowKit
section
variable {P : Program} {Q : Exit → Act → World → Prop} {ops : Array Oper}
theorem xp_lt {w : World} {g : Nat} {o : Obj} (h : w.heap[g]? = some o) : g < w.heap.size := (Array.getElem?_eq_some_iff.1 h).1
theorem xp_lt0 {w : World} {g : Nat} {b : Nat} {o : Obj} (h : w.heap[g]? = some o) (hb : w.heap.size ≤ b) : g ≠ b := Nat.ne_of_lt (Nat.lt_of_lt_of_le (xp_lt h) hb)
/-- a new variable, before its first store -/
theorem wpList_new {rest : List Oper} {o : Oper} {a : Act} {w : World} (z : Array Value) (t : TypeId) (hw : Region.wanted o (yielded ops a.tmps) = true) (hr : (execOp a.eval o).run P w = .ok (.value (.pointer (some ⟨w.heap.size, 0, none⟩))) (w.alloc (.cells z t)))
    (h : ∀ b W, w.heap.size ≤ b → W.heap[b]? = some (.cells z t (0, 0)) → Below w.heap.size w W → wpList P ops Q rest (a.put o.dst (.pointer (some ⟨b, 0, none⟩))) W) : wpList P ops Q (o :: rest) a w :=
  wpList_run hw _ _ hr (h _ _ (Nat.le_refl _) (heap_new w _) ((Below.refl _ _).alloc (Nat.le_refl _) _))
/-- a store of a whole row -/
theorem wpList_storeW {rest : List Oper} {o : Oper} {a : Act} {w : World} (g : Nat) (old row : Array Value) (t : TypeId) (hw : Region.wanted o (yielded ops a.tmps) = true) (hg : w.heap[g]? = some (.cells old t (0, 0))) (hr : (execOp a.eval o).run P w = .ok .skip (w.setRow g row))
    (h : ∀ W, W.heap[g]? = some (.cells row t (0, 0)) → (∀ k o, k ≠ g → w.heap[k]? = some o → W.heap[k]? = some o) → (∀ B v0, B ≤ g → Below B v0 w → Below B v0 W) → W.heap.size = w.heap.size → wpList P ops Q rest (a.put o.dst undef) W) : wpList P ops Q (o :: rest) a w := by
  refine wpList_run0 hw _ hr (h _ ?_ (fun k o hk h0 => ?_) (fun B v0 hB hb => bel_setRow hb hB _) (by simp [World.setRow]))
  · simp [World.setRow, Array.getElem?_modify, hg]
  · simp [World.setRow, Array.getElem?_modify, Ne.symm hk, h0]
/-- a store of one cell -/
theorem wpList_store1 {rest : List Oper} {o : Oper} {a : Act} {w : World} (g i : Nat) (cs : Array Value) (v : Value) (t : TypeId) (hw : Region.wanted o (yielded ops a.tmps) = true) (hg : w.heap[g]? = some (.cells cs t (0, 0))) (hr : (execOp a.eval o).run P w = .ok .skip (w.setCell ⟨g, i, none⟩ v))
    (h : ∀ W, W.heap[g]? = some (.cells (cs.setIfInBounds i v) t (0, 0)) → (∀ k o, k ≠ g → w.heap[k]? = some o → W.heap[k]? = some o) → (∀ B v0, B ≤ g → Below B v0 w → Below B v0 W) → W.heap.size = w.heap.size → wpList P ops Q rest (a.put o.dst undef) W) : wpList P ops Q (o :: rest) a w := by
  refine wpList_run0 hw _ hr (h _ (setCell_row w g i cs t (0, 0) v hg) (fun k o hk h0 => ?_) (fun B v0 hB hb => hb.setCell hB _) (by simp [World.setCell]))
  exact (Below.heap_setCell w _ _ k hk).trans h0
end
end Go.Proofs.YtopicjdmajlndaaDoor.K

namespace Go.Proofs.YtopicjdmajlndaaDoor.K
set_option linter.unusedVariables false
set_option linter.unusedSimpArgs false
set_option linter.unusedSectionVars false
open Go.RowKit
section
variable {P : Program} {ev : Operand → Value} {o : Oper} {w : World} {ty e : TypeId} {x y : Operand}
theorem xo_take (k1 : IntKind) (A : Option Addr) (n c k : Nat) (hk : k ≤ c) (hu : P.underlying ty = some (.slice e)) (hi : (P.info? e).isSome = true) (ho : o.op = .slice ty x none (some y) none) (hx : ev x = .slice A n c) (hy : ev y = .int k1 (k : Int)) :
    (execOp ev o).run P w = .ok (.value (.slice A k c)) w := by
  obtain ⟨inf, hq⟩ := Option.isSome_iff_exists.1 hi
  have hb : (Instr.sliceBound (.int k1 (k : Int)) c .sliceAcap).run P w = .ok k w := by
    simp [Instr.sliceBound, asIntOf, Sem.run_bind, hk]
  unfold execOp
  simp only [ho, Option.map, Sem.run_bind, Instr.sliceAt, hx, hy]
  rw [run_underlying hu, Result.andThen_ok]
  simp only [Instr.slice, Sem.run_bind]
  rw [run_underlying hu, Result.andThen_ok]
  simp only [Instr.sliceBounds, Sem.run_bind, Sem.run_pure, Result.andThen_ok, Option.isSome, if_true]
  rw [hb]
  have ha : A.map (fun x => x.add 0) = A := by
    cases A with
    | none => rfl
    | some a => simp [Addr.add_zero']
  simp [sizeOf, typeInfo, Sem.run_bind, hq, ha]
theorem xo_drop (k1 : IntKind) (A : Option Addr) (n c k s : Nat) (hk : k ≤ n) (hu : P.underlying ty = some (.slice e)) (hi : (P.info? e).map (·.size) = some s) (ho : o.op = .slice ty x (some y) none none) (hx : ev x = .slice A n c) (hy : ev y = .int k1 (k : Int)) :
    (execOp ev o).run P w = .ok (.value (.slice (if c = k then A else A.map (·.add (k * s))) (n - k) (c - k))) w := by
  cases hq : P.info? e with
  | none => simp [hq] at hi
  | some inf =>
    have hs : inf.size = s := by simpa [hq] using hi
    have hb : (Instr.sliceBound (.int k1 (k : Int)) n .sliceB).run P w = .ok k w := by
      simp [Instr.sliceBound, asIntOf, Sem.run_bind, hk]
    unfold execOp
    simp only [ho, Option.map, Sem.run_bind, Instr.sliceAt, hx, hy]
    rw [run_underlying hu, Result.andThen_ok]
    simp only [Instr.slice, Sem.run_bind]
    rw [run_underlying hu, Result.andThen_ok]
    simp only [Instr.sliceBounds, Sem.run_bind, Sem.run_pure, Result.andThen_ok, Option.isSome]
    simp only [if_false, Bool.false_eq_true]
    rw [hb]
    simp [sizeOf, typeInfo, Sem.run_bind, hq, hs]
    cases A <;> rfl
end
/-- m elements of so many cells each, read behind an address (none, if there are none) -/
structure SrcC (w : World) (A : Option Addr) (m size : Nat) (cs : List Value) : Prop where
  len : cs.length = m * size
  nil : A = none → m = 0
  cell : ∀ j u, cs[j]? = some u → ∃ ad, A = some ad ∧ w.cell? (ad.add j) = some u
  one : ∀ u ∈ cs, u.oneCell' = true
theorem SrcC.keep {w w' : World} {A : Option Addr} {m size : Nat} {cs : List Value} (h : SrcC w A m size cs) (hb : Below w.heap.size w w') : SrcC w' A m size cs :=
  ⟨h.len, h.nil, fun j u hj => by obtain ⟨ad, e, hc⟩ := h.cell j u hj; exact ⟨ad, e, cell_keep hc hb⟩, h.one⟩
section
variable {P : Program} {w w' : World} {base : Nat} {e : TypeId} {size n : Nat} {v : Value} {cs : List Value}
theorem own_keep (h : w.ownsRow base e size v n cs) (hb : Below w.heap.size w w') : w'.ownsRow base e size v n cs := by
  refine ⟨h.1, ?_⟩
  rcases h.2 with hn | ⟨g, cap, cur, rfl, hbs, hgg, rest⟩
  · exact .inl hn
  · exact .inr ⟨g, cap, cur, rfl, hbs, heap_keep hgg hb, rest⟩
theorem own_form (h : w.ownsRow base e size v n cs) : ∃ A c, v = .slice A n c := by
  rcases h.2 with ⟨rfl, rfl⟩ | ⟨g, cap, cur, rfl, _⟩ <;> exact ⟨_, _, rfl⟩
theorem own_below (h : w.ownsRow base e size v n cs) (hg : w.grownBy w' v.ownBlock) (hbase : base ≤ w.heap.size) : Below base w w' :=
  ⟨hg.os, hg.tape, hg.output, hg.size, fun k hk => hg.block k (by omega) (fun he => by
    rcases h.2 with ⟨rfl, _⟩ | ⟨g, cap, cur, rfl, hbs, _⟩
    · cases he
    · simp only [Value.ownBlock] at he
      injection he with he
      omega)⟩
/-- a new empty slice -/
theorem own_new {b : Nat} (h : w.heap[b]? = some (.cells #[] e (0, 0))) (hb : base ≤ b) : w.ownsRow base e size (.slice (some ⟨b, 0, none⟩) 0 0) 0 [] :=
  ⟨by simp, .inr ⟨b, 0, #[], rfl, hb, h, Nat.le_refl _, Nat.zero_le _, by simp, by simp⟩⟩
theorem xo_empty {ev : Operand → Value} {o : Oper} {t : TypeId} (hu : P.underlying t = some (.slice e)) (hs : (P.info? e).map (·.size) = some size) (ho : o.op = .buildSlice t 0 #[]) (w : World) :
    (execOp ev o).run P w = .ok (.value (.slice (some ⟨w.heap.size, 0, none⟩) 0 0)) (w.alloc (.cells #[] e)) := by
  cases hq : P.info? e with
  | none => simp [hq] at hs
  | some inf =>
    unfold execOp
    simp only [ho, Instr.buildSlice, Sem.run_bind, List.map_toArray, List.map_nil]
    rw [run_underlying hu, Result.andThen_ok]
    have h0 : ∀ f : Nat → Value, Array.map f (Array.range 0) = #[] := fun f => by apply Array.ext' ; simp
    simp [sizeOf, typeInfo, hq, Instr.fill, newRow, Sem.run_bind, h0]
/-- two slices in different blocks -/
def ApartV (u v : Value) : Prop := ∀ k, u.ownBlock = some k → v.ownBlock ≠ some k
theorem ApartV.symm {u v : Value} (h : ApartV u v) : ApartV v u := fun k hk e => h k e hk
/-- what is grown lies elsewhere -/
theorem own_other {u : Value} (h : w.ownsRow base e size v n cs) (hg : w.grownBy w' u.ownBlock) (ha : ApartV u v) : w'.ownsRow base e size v n cs := by
  have hlt := World.ownsRow.lt h
  refine ⟨h.1, ?_⟩
  rcases h.2 with hn | ⟨g, cap, cur, rfl, hbs, hgg, rest⟩
  · exact .inl hn
  · refine .inr ⟨g, cap, cur, rfl, hbs, ?_, rest⟩
    have h1 := hlt g rfl
    exact (hg.block g h1.2 (fun e => ha g e.symm rfl)).trans hgg
theorem ApartV.grow {u u' : Value} (ha : ApartV u v) (hw : ∀ k, u'.ownBlock = some k → u.ownBlock = some k ∨ w.heap.size ≤ k) (h : w.ownsRow base e size v n cs) : ApartV u' v := fun k hk e => by
  rcases hw k hk with h1 | h1
  · exact ha k h1 e
  · have := (World.ownsRow.lt h k e).2
    omega
theorem ApartV.new {b m c : Nat} (h : w.ownsRow base e size v n cs) (hb : w.heap.size ≤ b) : ApartV v (.slice (some ⟨b, 0, none⟩) m c) := fun k hk e => by
  have := (World.ownsRow.lt h k hk).2
  simp only [Value.ownBlock] at e
  injection e with e
  omega
theorem hOp_app {o : Oper} {a : Act} {K : Value → World → Prop} (s x : Operand) (t : TypeId) (ho : o.op = .call { callee := .builtin .append, args := #[s, x], argTypes := #[t, t] })
    (z : Value) (bytes : Nat) (ht : P.underlying t = some (.slice e)) (hinf : (P.info? e).map (fun i => (i.zero, i.size, i.bytes)) = some (some z, size, bytes)) (hzs : z.cells.size = size) (hsz : 0 < size)
    (hs : a.eval s = v) (hown : w.ownsRow base e size v n cs) (A : Option Addr) (m c : Nat) (ds : List Value) (hx : a.eval x = .slice A m c) (hd : SrcC w A m size ds) (h63 : n + m ≤ maxLen) (hbytes : (n + m) * bytes ≤ 140737488355328) (hbase : base ≤ w.heap.size)
    (h : ∀ v' w', w'.ownsRow base e size v' (n + m) (cs ++ ds) → w.grownBy w' v.ownBlock → (∀ k, v'.ownBlock = some k → v.ownBlock = some k ∨ w.heap.size ≤ k) → K v' w') : hOp P o K a w := by
  obtain ⟨i, hi, hz, hsize, hby⟩ := info_parts hinf
  cases A with
  | some ad =>
    have hnews : ∀ j u, ds[j]? = some u → w.cell? (ad.add j) = some u := fun j u hj => by
      obtain ⟨ad', e, hc⟩ := hd.cell j u hj
      injection e with e
      subst e
      exact hc
    obtain ⟨v', w', hr, h2, h3, _⟩ := run_append_own (P := P) w base t o.type e i z size bytes ht hi hz hsize hby hzs hsz v n cs hown ad m c ds hd.len hnews hd.one h63 hbytes hbase
    have hw : ∀ k, v'.ownBlock = some k → v.ownBlock = some k ∨ w.heap.size ≤ k := by
      intro k hk
      rcases hown.2 with ⟨rfl, rfl⟩ | ⟨g1, cap, cur, rfl, hb1, hg1, hcap, hmax, hsz1, htake⟩
      · have hcs : cs = [] := List.eq_nil_of_length_eq_zero (by have := hown.1; omega)
        subst hcs
        obtain ⟨v2, w2, hr2, hown2, _⟩ := run_append_own (P := P) w w.heap.size t o.type e i z size bytes ht hi hz hsize hby hzs hsz (.slice none 0 0) 0 [] (World.ownsRow_nil w _ _ _) ad m c ds hd.len hnews hd.one h63 hbytes (Nat.le_refl _)
        rw [hr] at hr2
        injection hr2 with e1 e2
        subst e1 e2
        exact .inr (World.ownsRow.lt hown2 k hk).1
      · by_cases hroom : n + m ≤ cap
        · have hle : n * i.size + ds.length ≤ cap * i.size := by rw [hsize, hd.len, ← Nat.add_mul]; exact Nat.mul_le_mul_right _ hroom
          have hr2 := run_append_room_cells (P := P) w t o.type e i ht hi g1 0 n cap ad m c ds (by rw [hsize, hd.len]) hnews hd.one hroom
            (fun j hj => by
              simp [World.cell?, hg1]
              rw [hsz1, ← hsize]
              omega) (fun j hj => by simp [World.frozen?, hg1])
          rw [hr] at hr2
          injection hr2 with e1 e2
          subst e1
          exact .inl hk
        · obtain ⟨v2, w2, hr2, hown2, _⟩ := run_append_arg_grows (P := P) w t o.type e i z size bytes ht hi hz hsize hby hzs hsz ⟨g1, 0, none⟩ n cap cs hown.1
            (fun j u hj => by
              rw [Addr.add_lit, Nat.zero_add]
              rw [← htake] at hj
              have hk := (List.getElem?_eq_some_iff.1 hj).1
              rw [List.getElem?_take_of_lt (by simp at hk; omega)] at hj
              simpa [World.cell?, hg1] using hj) ad m c ds hd.len hnews (by omega) h63 hbytes
          rw [hr] at hr2
          injection hr2 with e1 e2
          subst e1 e2
          exact .inr (World.ownsRow.lt hown2 k hk).1
    unfold hOp execOp
    simp only [ho, resolve, invoke, builtin, Sem.run_bind, Sem.run_pure, Result.andThen_ok, List.map_toArray, List.map_cons, List.map_nil, hs, hx, hr]
    exact h v' w' h2 h3 hw
  | none =>
    obtain rfl := hd.nil rfl
    have hl := hd.len
    rw [Nat.zero_mul] at hl
    obtain rfl : ds = [] := List.eq_nil_of_length_eq_zero hl
    obtain ⟨A, k, rfl⟩ := own_form hown
    have hnk : n ≤ k := by
      rcases hown.2 with ⟨e1, _⟩ | ⟨g, cap, cur, e1, hb, hg, hc, hm, hs, ht⟩
      · injection e1 with e1 e2 e3; omega
      · injection e1 with e1 e2 e3; omega
    have hr : (Builtin.append_ #[t, t] o.type #[.slice A n k, .slice none 0 c]).run P w = .ok (.slice A n k) w := by
      cases A <;> simp [Builtin.append_, run_underlying ht, sizeOf, typeInfo, hi, Builtin.lenOf, Builtin.firstCells, hnk, storeCells]
    unfold hOp execOp
    simp only [ho, resolve, invoke, builtin, Sem.run_bind, Sem.run_pure, Result.andThen_ok, List.map_toArray, List.map_cons, List.map_nil, hs, hx, hr]
    exact h _ w (by simpa using hown) ⟨rfl, rfl, rfl, Nat.le_refl _, fun _ _ _ => rfl⟩ fun k hk => .inl hk
variable {Q : Exit → Act → World → Prop} {ops : Array Oper}
theorem wpList_app2 {rest : List Oper} {o : Oper} {a : Act} (hw : Region.wanted o (yielded ops a.tmps) = true) (s x : Operand) (t : TypeId) (ho : o.op = .call { callee := .builtin .append, args := #[s, x], argTypes := #[t, t] })
    (z : Value) (bytes : Nat) (ht : P.underlying t = some (.slice e)) (hinf : (P.info? e).map (fun i => (i.zero, i.size, i.bytes)) = some (some z, size, bytes)) (hzs : z.cells.size = size) (hsz : 0 < size)
    (hs : a.eval s = v) (hown : w.ownsRow base e size v n cs) (A : Option Addr) (m c : Nat) (ds : List Value) (hx : a.eval x = .slice A m c) (hd : SrcC w A m size ds) (h63 : n + m ≤ maxLen) (hbytes : (n + m) * bytes ≤ 140737488355328) (hbase : base ≤ w.heap.size)
    (h : ∀ v' w', w'.ownsRow base e size v' (n + m) (cs ++ ds) → Below base w w' → w.grownBy w' v.ownBlock → (∀ k, v'.ownBlock = some k → v.ownBlock = some k ∨ w.heap.size ≤ k) → wpList P ops Q rest (a.put o.dst v') w') : wpList P ops Q (o :: rest) a w :=
  wpList_op hw (hOp_app s x t ho z bytes ht hinf hzs hsz hs hown A m c ds hx hd h63 hbytes hbase fun v' w' h1 h2 h3 => h v' w' h1 (own_below hown h2 hbase) h2 h3)
end
end Go.Proofs.YtopicjdmajlndaaDoor.K

namespace Go.Proofs.YtopicjdmajlndaaDoor.K
set_option linter.unusedVariables false
set_option linter.unusedSimpArgs false
set_option linter.unusedSectionVars false
open Go.RowKit
section
variable {P : Program} {Q : Exit → Act → World → Prop} {ops : Array Oper} {S : World → Prop}
theorem wpO_w {i : Nat} {is : List (Nat × Bool)} {o : Oper} {l : List Oper} {a : Act} {w : World} (v : Value) (hi : l[i]? = some o) (hw : Region.wanted o (yielded l.toArray a.tmps) = true) (hr : ∀ w', S w' → (execOp a.eval o).run P w' = .ok (.value v) w') (h : wpO P l.toArray S Q is (a.put o.dst v) w) : wpO P l.toArray S Q ((i, true) :: is) a w :=
  ⟨o, by simpa using hi, v, .inl ⟨hw, hr⟩, h⟩
end
end Go.Proofs.YtopicjdmajlndaaDoor.K


namespace Go.Proofs.YtopicjdmajlndaaDoor.K
set_option linter.unusedVariables false
set_option linter.unusedSimpArgs false
set_option linter.unusedSectionVars false
set_option maxRecDepth 8000
open Go.RowKit
/-- how an element lies in cells -/
class Enc {α : Type} (E : α → List Value) (k : outParam Nat) : Prop where
  len : ∀ x, (E x).length = k
  one : ∀ x, ∀ u ∈ E x, u.oneCell' = true
  pos : 0 < k
section
variable {α : Type} {E : α → List Value} {k : Nat} [hE : Enc E k]
theorem fl_length (xs : List α) : (xs.flatMap E).length = xs.length * k := by
  induction xs with
  | nil => simp
  | cons x xs ih => simp only [List.flatMap_cons, List.length_append, ih, hE.len, List.length_cons, Nat.add_mul]; omega
include hE in
theorem fl_one (xs : List α) : ∀ u ∈ xs.flatMap E, u.oneCell' = true := by
  intro u hu
  obtain ⟨x, _, h⟩ := List.mem_flatMap.1 hu
  exact hE.one x u h
theorem fl_take (xs : List α) : ∀ i, (xs.flatMap E).take (i * k) = (xs.take i).flatMap E := by
  induction xs with
  | nil => simp
  | cons x xs ih =>
    intro i
    cases i with
    | zero => simp
    | succ i =>
      have h1 : (i + 1) * k = (E x).length + i * k := by rw [hE.len, Nat.add_mul]; omega
      rw [List.flatMap_cons, h1, List.take_length_add_append, ih, List.take_succ_cons, List.flatMap_cons]
theorem fl_drop (xs : List α) : ∀ i, (xs.flatMap E).drop (i * k) = (xs.drop i).flatMap E := by
  induction xs with
  | nil => simp
  | cons x xs ih =>
    intro i
    cases i with
    | zero => simp
    | succ i =>
      have h1 : (i + 1) * k = (E x).length + i * k := by rw [hE.len, Nat.add_mul]; omega
      rw [List.flatMap_cons, h1, List.drop_length_add_append, ih, List.drop_succ_cons]
theorem fl_get {xs : List α} {i : Nat} {x : α} (h : xs[i]? = some x) (j : Nat) (hj : j < k) : (xs.flatMap E)[i * k + j]? = (E x)[j]? := by
  have hd : (xs.flatMap E)[i * k + j]? = ((xs.flatMap E).drop (i * k))[j]? := by rw [List.getElem?_drop]
  obtain ⟨hi, rfl⟩ := List.getElem?_eq_some_iff.1 h
  rw [hd, fl_drop, List.drop_eq_getElem_cons hi, List.flatMap_cons, List.getElem?_append_left (by rw [hE.len]; exact hj)]
theorem fl_set (xs : List α) (i : Nat) (y : α) (hi : i < xs.length) : (xs.flatMap E).take (i * k) ++ E y ++ (xs.flatMap E).drop (i * k + (E y).length) = (xs.set i y).flatMap E := by
  have h1 : i * k + (E y).length = (i + 1) * k := by rw [hE.len, Nat.add_mul]; omega
  rw [h1, fl_take, fl_drop, List.set_eq_take_append_cons_drop, if_pos hi, List.flatMap_append, List.flatMap_cons, List.append_assoc]
/-- the address of a cell behind a slice's head -/
def gad (A : Option Addr) (j : Nat) : Addr := match A with
  | some a => a.add j
  | none => ⟨0, 0, none⟩
theorem gad_base (b j : Nat) : gad (some ⟨b, 0, none⟩) j = ⟨b, j, none⟩ := by simp [gad, Addr.add_mid]
/-- a slice that reads as xs -/
structure Sg {α : Type} (E : α → List Value) (k : Nat) (w : World) (A : Option Addr) (n c : Nat) (xs : List α) : Prop where
  len : xs.length = n
  cap : n ≤ c
  top : c ≤ 9223372036854775807
  nil : A = none → c = 0
  at_ : ∀ i x, xs[i]? = some x → ∃ g off, A = some ⟨g, off, none⟩ ∧ w.rangeAt g (off + i * k) (E x)
variable {w w' : World} {A : Option Addr} {n c : Nat} {xs : List α}
theorem Sg.keep (h : Sg E k w A n c xs) (hb : Below w.heap.size w w') : Sg E k w' A n c xs :=
  ⟨h.len, h.cap, h.top, h.nil, fun i x hx => by obtain ⟨g, off, e, hr⟩ := h.at_ i x hx; exact ⟨g, off, e, fun j v hj => cell_keep (hr j v hj) hb⟩⟩
theorem Sg.nil_ (w : World) : Sg E k w none 0 0 ([] : List α) := ⟨rfl, Nat.le_refl _, by omega, fun _ => rfl, fun i x h => by simp at h⟩
theorem Sg.src (h : Sg E k w A n c xs) : SrcC w A n k (xs.flatMap E) :=
  ⟨by rw [fl_length, h.len], fun e => by have := h.nil e; have := h.cap; omega, fun j u hu => by
    have hk := hE.pos
    have hj : j < xs.length * k := by rw [← fl_length (E := E)]; exact (List.getElem?_eq_some_iff.1 hu).1
    have hi : j / k < xs.length := (Nat.div_lt_iff_lt_mul hk).2 hj
    have hm : j / k * k + j % k = j := Nat.div_add_mod' j k
    have hg := fl_get (E := E) (List.getElem?_eq_getElem hi) (j % k) (Nat.mod_lt _ hk)
    rw [hm, hu] at hg
    obtain ⟨g, off, e, hr⟩ := h.at_ (j / k) _ (List.getElem?_eq_getElem hi)
    refine ⟨_, e, ?_⟩
    have := hr (j % k) u hg.symm
    rw [Addr.add_mid]
    rwa [Nat.add_assoc, hm] at this, fl_one xs⟩
theorem Sg.take {m : Nat} (h : Sg E k w A n c xs) (hm : m ≤ n) : Sg E k w A m c (xs.take m) :=
  ⟨by rw [List.length_take, h.len]; omega, by have := h.cap; omega, h.top, h.nil, fun i x hx => h.at_ i x (by rw [List.getElem?_take] at hx; split at hx <;> simp_all)⟩
/-- a block that holds xs -/
def RowG {α : Type} (E : α → List Value) (w : World) (b : Nat) (t : TypeId) (xs : List α) : Prop := w.heap[b]? = some (.cells (xs.flatMap E).toArray t (0, 0))
theorem RowG.sg {b : Nat} {t : TypeId} (h : RowG E w b t xs) (hn : xs.length = n) (hc : n ≤ c) (ht : c ≤ 9223372036854775807) : Sg E k w (some ⟨b, 0, none⟩) n c xs :=
  ⟨hn, hc, ht, fun e => (by cases e), fun i x hx => ⟨b, 0, rfl, fun j v hv => by
    have hj : j < k := by rw [← hE.len x]; exact (List.getElem?_eq_some_iff.1 hv).1
    rw [cell_of_row w b _ _ t (0, 0) h, Nat.zero_add]
    rw [← hv, ← fl_get hx j hj]
    simp⟩⟩
theorem RowG.keep {b : Nat} {t : TypeId} (h : RowG E w b t xs) (hb : Below w.heap.size w w') : RowG E w' b t xs := heap_keep h hb
theorem rng_of {b : Nat} {t : TypeId} {cs : Array Value} {w : World} (h : w.heap[b]? = some (.cells cs t (0, 0))) (off : Nat) (l : List Value) (hl : ∀ j v, l[j]? = some v → cs[off + j]? = some v) : w.rangeAt b off l := fun j v hv => by
  rw [cell_of_row w b _ _ t (0, 0) h]
  exact hl j v hv
theorem ne_types {w : World} {a b : Nat} {cs ds : Array Value} {t u : TypeId} (h1 : w.heap[a]? = some (.cells cs t (0, 0))) (h2 : w.heap[b]? = some (.cells ds u (0, 0))) (h : t ≠ u) : a ≠ b := fun e => by
  subst e
  rw [h1] at h2
  injection h2 with h2
  injection h2 with _ h3
  exact h h3
theorem RowG.h {b : Nat} {t : TypeId} (h : RowG E w b t xs) : w.heap[b]? = some (.cells (xs.flatMap E).toArray t (0, 0)) := h
theorem RowG.lt {b : Nat} {t : TypeId} (h : RowG E w b t xs) : b < w.heap.size := xp_lt h
/-- a slice of the call's own -/
theorem Sg.own {base : Nat} {e : TypeId} {v : Value} (h : w.ownsRow base e k v n (xs.flatMap E)) : ∃ A c, v = .slice A n c ∧ Sg E k w A n c xs := by
  have hn : xs.length = n := by
    have h1 := h.1
    rw [fl_length] at h1
    exact Nat.eq_of_mul_eq_mul_right hE.pos h1
  rcases h.2 with ⟨rfl, rfl⟩ | ⟨g, cap, cur, rfl, hb, hg, hc, hm, hs, ht⟩
  · have : xs = [] := List.eq_nil_of_length_eq_zero hn
    subst this
    exact ⟨_, _, rfl, Sg.nil_ w⟩
  · refine ⟨_, cap, rfl, hn, hc, by unfold maxLen at hm; omega, fun e => (by cases e), fun i x hx => ⟨g, 0, rfl, fun j v hv => ?_⟩⟩
    have hj : j < k := by rw [← hE.len x]; exact (List.getElem?_eq_some_iff.1 hv).1
    have hi := (List.getElem?_eq_some_iff.1 hx).1
    have hlt : i * k + j < n * k := by
      have h1 : (i + 1) * k ≤ n * k := Nat.mul_le_mul_right _ (by omega)
      rw [Nat.add_mul] at h1
      omega
    rw [cell_of_row w g _ cur e (0, 0) hg, Nat.zero_add, ← hv, ← fl_get hx j hj, ← ht, List.getElem?_take, if_pos hlt]
    simp
theorem Sg.ownS {base : Nat} {e : TypeId} (h : w.ownsRow base e k (.slice A n c) n (xs.flatMap E)) : Sg E k w A n c xs := by
  obtain ⟨A2, c2, e1, hs⟩ := Sg.own h
  injection e1 with e1 _ e2
  subst e1 e2
  exact hs
variable {P : Program} {ev : Operand → Value} {o : Oper} {ty t : TypeId} {x y : Operand}
theorem xg_idx {e : TypeId} {i : Nat} {a : α} (kk : IntKind) (h : Sg E k w A n c xs) (ha : xs[i]? = some a) (hu : P.underlying ty = some (.slice e)) (hs : (P.info? e).map (·.size) = some k) (ho : o.op = .indexAddr ty x y) (hx : ev x = .slice A n c) (hy : ev y = .int kk (i : Int)) :
    (execOp ev o).run P w = .ok (.value (.pointer (some (gad A (i * k))))) w := by
  obtain ⟨g, off, rfl, _⟩ := h.at_ i a ha
  have hi := (List.getElem?_eq_some_iff.1 ha).1
  rw [h.len] at hi
  exact xo_index kk _ n c i k hi hu hs ho hx hy
/-- a cell of an element -/
theorem xg_load1 {d : TypeDesc} {i j q : Nat} {a : α} {v : Value} (h : Sg E k w A n c xs) (ha : xs[i]? = some a) (hq : q = i * k + j) (hv : (E a)[j]? = some v) (hu : P.underlying ty = some d) (hd : (match d with | .struct _ | .array _ _ => true | _ => false) = false) (ho : o.op = .load ty x) (hx : ev x = .pointer (some (gad A q))) :
    (execOp ev o).run P w = .ok (.value v) w := by
  obtain ⟨g, off, rfl, hr⟩ := h.at_ i a ha
  refine xo_load1 _ v ?_ hu hd ho hx
  subst hq
  have := hr j v hv
  simp only [gad, Addr.add_mid]
  rwa [← Nat.add_assoc]
/-- cells of an element, together -/
theorem xg_loadR {d : TypeDesc} {i j q : Nat} {a : α} {cs : List Value} (h : Sg E k w A n c xs) (ha : xs[i]? = some a) (hq : q = i * k + j) (hv : ∀ m u, cs[m]? = some u → (E a)[j + m]? = some u) (hu : P.underlying ty = some d) (hd : d.isRow = true) (hi : (P.info? ty).map (·.size) = some cs.length) (ho : o.op = .load ty x) (hx : ev x = .pointer (some (gad A q))) :
    (execOp ev o).run P w = .ok (.value (.agg cs.toArray)) w := by
  obtain ⟨g, off, rfl, hr⟩ := h.at_ i a ha
  subst hq
  refine xo_loadR g (off + (i * k + j)) cs (fun m u hm => ?_) hu hd hi ho (by rw [hx]; simp [gad, Addr.add_mid])
  have := hr (j + m) u (hv m u hm)
  rwa [show off + (i * k + j) + m = off + i * k + (j + m) by omega]
theorem xg_loadE {d : TypeDesc} {i : Nat} {a : α} (h : Sg E k w A n c xs) (ha : xs[i]? = some a) (hu : P.underlying ty = some d) (hd : d.isRow = true) (hi : (P.info? ty).map (·.size) = some k) (ho : o.op = .load ty x) (hx : ev x = .pointer (some (gad A (i * k)))) :
    (execOp ev o).run P w = .ok (.value (.agg (E a).toArray)) w :=
  xg_loadR (j := 0) h ha rfl (fun m u hm => by rw [Nat.zero_add]; exact hm) hu hd (by rw [hi, hE.len]) ho hx
/-- a field of an element -/
theorem xg_fld {i q j : Nat} {a : α} (f : Nat) (h : Sg E k w A n c xs) (ha : xs[i]? = some a) (hf : fldOK P ty f j = true) (ho : o.op = .fieldAddr ty x f) (hx : ev x = .pointer (some (gad A q))) :
    (execOp ev o).run P w = .ok (.value (.pointer (some (gad A (q + j))))) w := by
  obtain ⟨g, off, rfl, hr⟩ := h.at_ i a ha
  have hx' : ev x = .pointer (some ⟨g, off + q, none⟩) := by rw [hx]; simp [gad, Addr.add_mid]
  have := xo_fld (P := P) (w := w) f g (off + q) j hf ho hx'
  rw [this]
  simp [gad, Addr.add_mid, Nat.add_assoc]
/-- an element of an array inside of an element -/
theorem xg_arr {e : TypeId} {i q j s : Nat} {a : α} {N : Nat} (kk : IntKind) (h : Sg E k w A n c xs) (ha : xs[i]? = some a) (hu : P.underlying ty = some (.array N e)) (hj : j < N) (hs : (P.info? e).map (·.size) = some s) (ho : o.op = .indexAddr ty x y) (hx : ev x = .pointer (some (gad A q))) (hy : ev y = .int kk (j : Int)) :
    (execOp ev o).run P w = .ok (.value (.pointer (some (gad A (q + j * s))))) w := by
  obtain ⟨g, off, rfl, hr⟩ := h.at_ i a ha
  cases hq : P.info? e with
  | none => simp [hq] at hs
  | some inf =>
    have hz : (sizeOf e).run P w = .ok s w := by simp [sizeOf, typeInfo, Sem.run_bind, hq]; simpa [hq] using hs
    unfold execOp
    simp [ho, hx, hy, Instr.indexAt, asIntOf, Sem.run_bind, run_underlying hu, Instr.sureAddr, hz, hj, gad, Addr.add_mid, Nat.add_assoc]
/-- an element is stored into a block -/
theorem xg_store {b i : Nat} (h : RowG E w b t xs) (hi : i < xs.length) (a : α) (hs : (P.info? ty).map (·.size) = some k) (ho : o.op = .store ty x y) (hx : ev x = .pointer (some (gad (some ⟨b, 0, none⟩) (i * k)))) (hy : (ev y).cells = (E a).toArray) :
    (execOp ev o).run P w = .ok .skip (w.setRow b ((xs.set i a).flatMap E).toArray) := by
  have hst := run_storeCells_at P b (i * k) t (E a) 0 (xs.flatMap E).toArray w h (by
    have h1 : (i + 1) * k ≤ xs.length * k := Nat.mul_le_mul_right _ hi
    rw [Nat.add_mul] at h1
    simp only [List.size_toArray, fl_length, hE.len]
    omega) (hE.one a)
  rw [Nat.add_zero, List.toList_toArray] at hst
  rw [fl_set xs i a hi] at hst
  rw [gad_base] at hx
  cases hq : P.info? ty with
  | none => simp [hq] at hs
  | some inf =>
    have hsz : inf.size = k := by simpa [hq] using hs
    unfold execOp
    simp only [ho, hx, Instr.storeAt, Instr.sureAddr, Sem.run_bind, Sem.run_pure, Result.andThen_ok, storeVar, sizeOf, typeInfo, run_program, hq, hsz, hy]
    simp [hE.len, hst, Sem.run_bind]
/-- n new elements -/
theorem mk_cells (z : Value) (a : α) (hz : z.cells = (E a).toArray) (n : Nat) : madeCells z.cells (n * k) = ((List.replicate n a).flatMap E).toArray := by
  have hk := hE.pos
  apply Array.ext'
  apply List.ext_getElem?
  intro j
  by_cases hj : j < n * k
  · have hi : j / k < n := (Nat.div_lt_iff_lt_mul hk).2 hj
    have hm : j / k * k + j % k = j := Nat.div_add_mod' j k
    have hg := fl_get (E := E) (xs := List.replicate n a) (i := j / k) (x := a) (by simp [List.getElem?_replicate, hi]) (j % k) (Nat.mod_lt _ hk)
    rw [hm] at hg
    rw [List.toList_toArray, hg, hz]
    have hlt : j % (E a).length < (E a).length := by rw [hE.len]; exact Nat.mod_lt _ hk
    simp only [madeCells, Array.toList_map, Array.toList_range, List.getElem?_map, List.size_toArray, List.getElem?_range hj, Option.map_some]
    rw [← hE.len a, List.getElem?_eq_getElem hlt]
    simp [hlt]
  · rw [List.getElem?_eq_none (by rw [Array.length_toList, size_madeCells]; omega), List.getElem?_eq_none (by rw [List.toList_toArray, fl_length, List.length_replicate]; omega)]
theorem xg_make {e : TypeId} {bytes : Nat} (z : Value) (a : α) (m : Nat) (kl : IntKind) (ht : P.underlying ty = some (.slice e)) (hinf : (P.info? e).map (fun i => (i.zero, i.size, i.bytes)) = some (some z, k, bytes)) (hz : z.cells = (E a).toArray) (hb : bytes * m ≤ 281474976710656) (h63 : m ≤ 9223372036854775807)
    (ho : o.op = .makeSlice ty x y) (hx : ev x = .int kl (m : Int)) (hy : ev y = .int kl (m : Int)) :
    (execOp ev o).run P w = .ok (.value (.slice (some ⟨w.heap.size, 0, none⟩) m m)) (w.alloc (.cells ((List.replicate m a).flatMap E).toArray e)) := by
  obtain ⟨i, hi, hiz, hs, hby⟩ := info_parts hinf
  have hb' : (i.bytes : Int) * (m : Int) ≤ 281474976710656 := by
    have h : ((i.bytes * m : Nat) : Int) ≤ 281474976710656 := by rw [hby]; omega
    rwa [Int.natCast_mul] at h
  have hr := run_make (P := P) w ty e i z ht hi hiz kl kl m m (by omega) (Int.le_refl _) hb' (by omega)
  simp only [Int.toNat_natCast] at hr
  rw [hs, mk_cells z a hz] at hr
  unfold execOp
  simp [ho, hx, hy, Sem.run_bind, hr]
/-- bits in common, shifts -/
theorem xo_and (kk : IntKind) (u v r : Nat) (hu : u < 2 ^ kk.bits) (hv : v < 2 ^ kk.bits) (h : u &&& v = r) (hr : kk.wrap (r : Int) = (r : Int)) (ho : o.op = .binOp .and ty x y t) (hx : ev x = .int kk (u : Int)) (hy : ev y = .int kk (v : Int)) :
    (execOp ev o).run P w = .ok (.value (.int kk (r : Int))) w := by
  have e : (Op.intBits .and kk (u : Int) (v : Int)).run P w = .ok (.int kk (r : Int)) w := by
    have e1 : (BitVec.ofInt kk.bits (u : Int) &&& BitVec.ofInt kk.bits (v : Int)).toNat = r := by
      rw [BitVec.toNat_and]
      simp only [BitVec.ofInt_natCast, BitVec.toNat_ofNat, Nat.mod_eq_of_lt hu, Nat.mod_eq_of_lt hv, h]
    simp only [Op.intBits, e1, hr]
    rfl
  unfold execOp
  simp [ho, hx, hy, eqGuard, binOp, Sem.run_bind, e]
theorem xo_shlI (kk : IntKind) (u n r : Nat) (h : u * 2 ^ n = r) (hr : r < 9223372036854775808) (ho : o.op = .binOp .shl ty x y t) (hx : ev x = .int .i64 (u : Int)) (hy : ev y = .int kk (n : Int)) (hn : n < 63 := by omega) :
    (execOp ev o).run P w = .ok (.value (.int .i64 (r : Int))) w := by
  have hm : min (n : Int).toNat IntKind.i64.bits = n := by rw [Int.toNat_natCast]; show min n 64 = n; omega
  have e : (u : Int) * 2 ^ n = (r : Int) := by rw [← h]; simp
  have e0 : IntKind.i64.wrap ((u : Int) * 2 ^ n) = (r : Int) := by rw [e, wrapI (by omega) (by omega)]
  unfold execOp
  simp [ho, hx, hy, eqGuard, binOp, Sem.run_bind, hm]
  exact e0
theorem xo_quoN (kk : IntKind) (u v r : Nat) (hv : 1 ≤ v) (h : u / v = r) (hr : kk.wrap (r : Int) = (r : Int)) (ho : o.op = .binOp .quo ty x y t) (hx : ev x = .int kk (u : Int)) (hy : ev y = .int kk (v : Int)) : (execOp ev o).run P w = .ok (.value (.int kk (r : Int))) w :=
  xo_div .quo kk (u : Int) (v : Int) (r : Int) (by omega) (.inl ⟨rfl, by rw [Int.tdiv_eq_ediv_of_nonneg (by omega), ← Int.natCast_ediv, h, hr]⟩) ho hx hy
/-- an element of one cell of an array that is a value -/
theorem xo_elt {e : TypeId} {d : TypeDesc} (kk : IntKind) (cs : Array Value) (i N : Nat) (v : Value) (hi : i < N) (hv : cs[i]? = some v) (hu : P.underlying ty = some (.array N e)) (hs : (P.info? e).map (·.size) = some 1) (hd : P.underlying e = some d) (hdr : (match d with | .struct _ | .array _ _ => true | _ => false) = false)
    (ho : o.op = .index ty x y) (hx : ev x = .agg cs) (hy : ev y = .int kk (i : Int)) : (execOp ev o).run P w = .ok (.value v) w := by
  cases hq : P.info? e with
  | none => simp [hq] at hs
  | some inf =>
    have hz : (sizeOf e).run P w = .ok 1 w := by simp [sizeOf, typeInfo, Sem.run_bind, hq]; simpa [hq] using hs
    unfold execOp
    simp only [ho, hx, hy, Instr.index, asIntOf, Sem.run_bind, Sem.run_pure, Result.andThen_ok]
    rw [run_underlying hu, Result.andThen_ok]
    simp only [Sem.run_bind, Sem.run_pure, Result.andThen_ok]
    rw [if_pos (by omega), Sem.run_bind, hz, Result.andThen_ok]
    simp [part, Sem.run_bind, run_isAgg_plain hd hdr, hv]
/-- a slice literal -/
theorem xg_lit {e : TypeId} {bytes : Nat} (z : Value) (ys : List Operand) (xs : List α) (n : Nat) (ht : P.underlying ty = some (.slice e)) (hinf : (P.info? e).map (fun i => (i.zero, i.size, i.bytes)) = some (some z, k, bytes)) (hn : ys.length = n) (hsmall : ¬ n * k > 2 ^ 24) (hpos : ¬ n = 0)
    (ho : o.op = .buildSlice ty n ((ys.zipIdx 0).map fun x => (x.2, x.1)).toArray) (hv : ys.map (fun y => (ev y).cells.toList) = xs.map E) :
    (execOp ev o).run P w = .ok (.value (.slice (some ⟨w.heap.size, 0, none⟩) n n)) (w.alloc (.cells (xs.flatMap E).toArray e)) := by
  obtain ⟨i, hi, hz, hs, hby⟩ := info_parts hinf
  have hk := hE.pos
  have hxs : xs.length = ys.length := by have := congrArg List.length hv; simpa using this.symm
  have h1 : ∀ v ∈ ys.map ev, v.cells.size = k := by
    intro v hm
    obtain ⟨y, hy, rfl⟩ := List.mem_map.1 hm
    have : (ev y).cells.toList ∈ xs.map E := by rw [← hv]; exact List.mem_map.2 ⟨y, hy, rfl⟩
    obtain ⟨x, _, hx⟩ := List.mem_map.1 this
    have h2 := hE.len x
    rw [hx, Array.length_toList] at h2
    exact h2
  have hf := Great.fill_whole hk (ys.map ev) ((Array.range (n * k)).map (z.cells[· % z.cells.size]!)) h1 (by simp [hn])
  have he : ((ys.map ev).flatMap fun v => v.cells.toList) = xs.flatMap E := by
    rw [List.flatMap_map, List.flatMap_def, List.flatMap_def]
    exact congrArg List.flatten hv
  rw [he] at hf
  have hp : (((ys.zipIdx 0).map fun x => (x.2, x.1)).toArray.map fun (i, x) => (i, ev x)).toList = ((ys.map ev).zipIdx 0).map fun x => (x.2, x.1) := by
    rw [List.zipIdx_map, List.map_map]
    simp [List.map_map]
  have hr := run_buildSlice (P := P) w ty e n (((ys.zipIdx 0).map fun x => (x.2, x.1)).toArray.map fun (i, x) => (i, ev x)) (xs.flatMap E).toArray i z ht hi hz (by rw [hs]; exact hsmall) (by rw [hs]; intro h0; rcases Nat.mul_eq_zero.1 h0 with h0 | h0 <;> omega) (by rw [hs, hp]; exact hf)
  unfold execOp
  simp only [ho, Sem.run_bind, hr, Result.andThen_ok]
  rfl
/-- a copy into a block -/
theorem xg_copy {e : TypeId} {b dl dc m d : Nat} {ts : TypeId} {B : Option Addr} {ys : List α} (h : RowG E w b t xs) (hd : dl = xs.length) (hsrc : Sg E k w B m d ys) (hm : m ≤ dl) (hu : P.underlying ty = some (.slice e)) (hs : (P.info? e).map (·.size) = some k)
    (ho : o.op = .call { callee := .builtin .copy, args := #[x, y], argTypes := #[ty, ts] }) (hx : ev x = .slice (some ⟨b, 0, none⟩) dl dc) (hy : ev y = .slice B m d) :
    (execOp ev o).run P w = .ok (.value (.int .i64 (m : Int))) (w.setRow b ((ys ++ xs.drop m).flatMap E).toArray) := by
  have hmin : Nat.min m dl = m := Nat.min_eq_left hm
  have hl := hsrc.len
  have hlen : (ys.flatMap E).length = m * k := by rw [fl_length, hl]
  have hst := run_storeCells_at P b 0 t (ys.flatMap E) 0 (xs.flatMap E).toArray w h (by
    rw [hlen, List.size_toArray, fl_length, ← hd]
    have := Nat.mul_le_mul_right k hm
    omega) (fl_one ys)
  rw [Nat.add_zero, List.toList_toArray, List.take_zero, List.nil_append, hlen, Nat.zero_add, fl_drop, ← List.flatMap_append] at hst
  cases hq : P.info? e with
  | none => simp [hq] at hs
  | some i =>
    have hi : i.size = k := by simpa [hq] using hs
    unfold execOp
    cases B with
    | some a =>
      have hld := run_loadCells_list (P := P) w a (ys.flatMap E) (fun j u hj => by
        obtain ⟨ad, e1, hc⟩ := hsrc.src.cell j u hj
        injection e1 with e1
        subst e1
        exact hc)
      rw [hlen] at hld
      simp [ho, hx, hy, resolve, invoke, builtin, Builtin.copy_, run_underlying hu, Builtin.lenOf, Builtin.firstCells, sizeOf, typeInfo, hq, hi, hmin, hld, hst, Sem.run_bind, goInt]
    | none =>
      have h0 := hsrc.nil rfl
      have h1 := hsrc.cap
      obtain rfl : m = 0 := by omega
      have hys : ys = [] := List.eq_nil_of_length_eq_zero hl
      subst hys
      rw [List.nil_append, List.drop_zero, setRow_self w b _ t (0, 0) h]
      simp [ho, hx, hy, resolve, invoke, builtin, Builtin.copy_, run_underlying hu, Builtin.lenOf, Builtin.firstCells, sizeOf, typeInfo, hq, hi, storeCells, Sem.run_bind, goInt]
variable {Q : Exit → Act → World → Prop} {ops : Array Oper}
/-- a write of a whole row that yields a value -/
theorem wpList_rowV {rest : List Oper} {o : Oper} {a : Act} {w : World} (v : Value) (g : Nat) (old row : Array Value) (t : TypeId) (hw : Region.wanted o (yielded ops a.tmps) = true) (hg : w.heap[g]? = some (.cells old t (0, 0))) (hr : (execOp a.eval o).run P w = .ok (.value v) (w.setRow g row))
    (h : ∀ W, W.heap[g]? = some (.cells row t (0, 0)) → (∀ k o, k ≠ g → w.heap[k]? = some o → W.heap[k]? = some o) → (∀ B v0, B ≤ g → Below B v0 w → Below B v0 W) → W.heap.size = w.heap.size → wpList P ops Q rest (a.put o.dst v) W) : wpList P ops Q (o :: rest) a w := by
  refine wpList_run hw v _ hr (h _ ?_ (fun k o hk h0 => ?_) (fun B v0 hB hb => bel_setRow hb hB _) (by simp [World.setRow]))
  · simp [World.setRow, Array.getElem?_modify, hg]
  · simp [World.setRow, Array.getElem?_modify, Ne.symm hk, h0]
end
end Go.Proofs.YtopicjdmajlndaaDoor.K

namespace Go.Proofs.YtopicjdmajlndaaDoor.K
set_option linter.unusedVariables false
set_option linter.unusedSimpArgs false
set_option linter.unusedSectionVars false
set_option maxRecDepth 8000
open Go.RowKit
/-- a step of an iterator: nothing below N changes, no cells change -/
structure Abide (N : Nat) (A B : World) : Prop where
  below : Below N A B
  cells : ∀ (b : Nat) (o : Obj), A.heap[b]? = some o → o.isCells = true → B.heap[b]? = some o
theorem Abide.refl (N : Nat) (A : World) : Abide N A A := ⟨Below.refl _ _, fun _ _ h _ => h⟩
theorem Abide.trans {N : Nat} {A B C : World} (h : Abide N A B) (k : Abide N B C) : Abide N A C := ⟨h.below.trans k.below, fun b o ho hc => k.cells b o (h.cells b o ho hc) hc⟩
theorem Abide.mono {N M : Nat} {A B : World} (h : Abide N A B) (hM : M ≤ N) : Abide M A B := ⟨h.below.mono hM, h.cells⟩
theorem Abide.of_below {N : Nat} {A B : World} (h : Below A.heap.size A B) (hN : N ≤ A.heap.size) : Abide N A B := ⟨h.mono hN, fun _ _ ho _ => heap_keep ho h⟩
theorem Abide.putObj {N l : Nat} {A : World} {o : Obj} (o' : Obj) (h : A.heap[l]? = some o) (hc : o.isCells = false) (hN : N ≤ l) : Abide N A (A.putObj l o') :=
  ⟨⟨rfl, rfl, rfl, by simp, fun k hk => World.putObj_heap_other (by omega)⟩, fun b q hq hqc => by
    have e : b ≠ l := by
      rintro rfl
      rw [h] at hq
      cases hq
      rw [hc] at hqc
      cases hqc
    exact (World.putObj_heap_other e).trans hq⟩
theorem Abide.cell {N : Nat} {A B : World} (h : Abide N A B) {p : Addr} {v : Value} (hc : A.cell? p = some v) : B.cell? p = some v := by
  have hlt := World.block_lt_of_cell? _ _ hc
  have ho := Array.getElem?_eq_getElem hlt
  have hcell : (A.heap[p.block]'hlt).isCells = true := by
    have := hc
    unfold World.cell? at this
    rw [ho] at this
    cases hh : A.heap[p.block]'hlt <;> rw [hh] at this <;> first | rfl | (simp at this)
  exact (World.cell?_of_block ((h.cells _ _ ho hcell).trans ho.symm)).trans hc
/-- what a round keeps for the iterator: whatever lies at or beyond N, but for cells -/
structure KeepI (N : Nat) (A B : World) : Prop where
  size : A.heap.size ≤ B.heap.size
  same : ∀ (b : Nat) (o : Obj), N ≤ b → A.heap[b]? = some o → Obj.isCells o = false → B.heap[b]? = some o
theorem KeepI.refl (N : Nat) (A : World) : KeepI N A A := ⟨Nat.le_refl _, fun _ _ _ h _ => h⟩
theorem KeepI.trans {N : Nat} {A B C : World} (h : KeepI N A B) (k : KeepI N B C) : KeepI N A C := ⟨Nat.le_trans h.size k.size, fun b o hb ho hd => k.same b o hb (h.same b o hb ho hd) hd⟩
theorem KeepI.mono {N M : Nat} {A B : World} (h : KeepI N A B) (hM : N ≤ M) : KeepI M A B := ⟨h.size, fun b o hb => h.same b o (by omega)⟩
theorem KeepI.of_below {N : Nat} {A B : World} (h : Below A.heap.size A B) : KeepI N A B := ⟨h.size, fun _ _ _ ho _ => heap_keep ho h⟩
theorem KeepI.putObj {N l : Nat} {A : World} (o' : Obj) (hN : l < N) : KeepI N A (A.putObj l o') := ⟨by simp, fun b o hb ho _ => (World.putObj_heap_other (by omega)).trans ho⟩
theorem KeepI.setCell {N : Nat} {A : World} (p : Addr) (v : Value) (hp : p.block < N) : KeepI N A (A.setCell p v) :=
  ⟨by simp [World.setCell], fun b o hb ho _ => (Below.heap_setCell A p v b (by omega)).trans ho⟩
theorem KeepI.setRow {N x : Nat} {A : World} (cs : Array Value) (hx : x < N) : KeepI N A (A.setRow x cs) :=
  ⟨by simp [World.setRow], fun b o hb ho _ => by
    have : x ≠ b := by omega
    simp [World.setRow, Array.getElem?_modify, this]
    exact ho⟩
theorem KeepI.cell {N : Nat} {A B : World} (h : KeepI N A B) {p : Addr} {v : Value} (hp : N ≤ p.block) (hc : A.cell? p = some v) (hd : ∀ o, A.heap[p.block]? = some o → Obj.isCells o = false) : B.cell? p = some v := by
  have hlt := World.block_lt_of_cell? _ _ hc
  have ho := Array.getElem?_eq_getElem hlt
  exact (World.cell?_of_block ((h.same _ _ hp ho (hd _ ho)).trans ho.symm)).trans hc
/-- what an iterator promises whose rounds always go on: it yields xs in their order -/
def IterC {α : Type} (P : Program) (gf : Nat) (lb : Array Value) (encs : α → Array Value) (xs : List α) (G : World → Prop) : Prop :=
  ∀ (l : Nat) (W : World) (J : Nat → World → Prop), (∀ i A, J i A → G A ∧ W.heap.size ≤ A.heap.size) → (∀ i A B, J i A → Abide W.heap.size A B → J i B) →
    (∀ i x A, xs[i]? = some x → J i A → YieldAt Fence.wide 1 P l (encs x) A fun e B => e = .returned (.bool true) ∧ J (i + 1) B ∧ KeepI W.heap.size A B) → J 0 W →
    CallsIn Fence.wide 2 P gf (#[.func (.yield l) #[] #[]] ++ lb) W fun e B => (∃ v, e = .returned v) ∧ J xs.length B
/-- how a round's body is left -/
def endAll (N : Nat) (J1 : World → Prop) (A : World) : Exit → Act → World → Prop
  | .normal, _, B => KeepI N A B ∧ J1 B
  | _, _, _ => False
theorem wpIn_rangeAll {P : Program} {α : Type} {g : Operand} {ps : Array Tmp} {assign body : Code} {Q : Exit → Act → World → Prop} {a : Act} {w : World} {gf : Nat} {lb : Array Value}
    (hg : a.eval g = .func (.func gf) #[] lb) (eg : ∀ args w, (callFunc gf args).run P w = .ok (.enter gf args) w) (encs : α → Array Value) (hps : ∀ x, (encs x).size = ps.size)
    (xs : List α) (G : World → Prop) (hit : IterC P gf lb encs xs G) (J : Nat → World → Prop) (hJG : ∀ i A, J i A → G A) (hJ : ∀ i A B, J i A → Abide w.heap.size A B → J i B) (h0 : J 0 w) (n : Nat)
    (hround : ∀ (l i : Nat) (x : α) (A : World), xs[i]? = some x → w.heap.size ≤ l → J i A →
      assign.wpIn (Fence.wide.inRound l) 1 P (Exit.then (fun a' B => KeepI w.heap.size A B ∧ ∀ B2, Abide w.heap.size B B2 → body.wpIn (Fence.wide.inRound l) 1 P (endAll w.heap.size (J (i + 1)) B2) a' B2) (fun _ _ _ => False))
        { tmps := (ps.zip (encs x)).foldl (fun t (p, v) => t.setIfInBounds p v) a.tmps, defers := [] } A)
    (hdone : ∀ (D : Nat) (B : World), w.heap.size ≤ D → J xs.length B → B.heap[D]? = some (.deferred (some [])) → Q .normal { a with defers := { target := .collected D, args := #[] } :: a.defers } B) :
    (Code.rangeFunc g ps assign body).wpIn Fence.wide n P Q a w := by
  refine wpIn_rangeFunc fun fn hfn => ?_
  let R : LoopState → Option Code → Loop := fun st pd => { state := st, pending := pd, fn := fn, tmps := a.tmps, params := ps, assign := assign, body := body, defers := w.heap.size }
  let W : World := (w.alloc (.deferred (some []))).alloc (.loop (R .ready none))
  have hsz : W.heap.size = w.heap.size + 1 + 1 := by simp [W]
  have hbW : Below w.heap.size w W := ((Below.refl _ w).alloc (Nat.le_refl _) _).alloc (by simp) _
  have hWL : W.heap[w.heap.size + 1]? = some (.loop (R .ready none)) := by
    have h := World.alloc_heap_new (w.alloc (.deferred (some []))) (.loop (R .ready none))
    rwa [World.size_alloc] at h
  have hWD : W.heap[w.heap.size]? = some (.deferred (some [])) := heap_old _ (heap_new w _)
  have put : ∀ (A : World) (o o' : Obj), A.heap[w.heap.size + 1]? = some o → (A.putObj (w.heap.size + 1) o').heap[w.heap.size + 1]? = some o' ∧ ∀ b q, b ≠ w.heap.size + 1 → A.heap[b]? = some q → (A.putObj (w.heap.size + 1) o').heap[b]? = some q := fun A o o' h =>
    ⟨World.putObj_heap_same (Array.getElem?_eq_some_iff.1 h).1, fun b q hb hq => (World.putObj_heap_other hb).trans hq⟩
  refine ⟨w.heap.size + 1, [{ target := .collected w.heap.size, args := #[] }], W, { target := .fn (.func gf) lb, args := #[.func (.yield (w.heap.size + 1)) #[] #[]] }, W, gf, #[.func (.yield (w.heap.size + 1)) #[] #[]] ++ lb, W, run_enterLoop_outer _ _ _ _ _, ?_, fun _ _ => trivial, ?_, fun h => (by cases h), ?_⟩
  · simp only [resolve, hg]
    simp [go_sem]
  · simp [invoke, go_sem, eg]
  · refine (callsIn_wide (n := n - 1)).2 ((callsIn_wide (n := 2)).1 ((hit (w.heap.size + 1) W
      (fun i A => J i A ∧ W.heap.size ≤ A.heap.size ∧ A.heap[w.heap.size + 1]? = some (.loop (R .ready none)) ∧ A.heap[w.heap.size]? = some (.deferred (some [])))
      (fun i A h => ⟨hJG i A h.1, h.2.1⟩)
      (fun i A B h hb => ⟨hJ i A B h.1 (hb.mono hbW.size), Nat.le_trans h.2.1 hb.below.size, (hb.below.block _ (by omega)).trans h.2.2.1, (hb.below.block _ (by omega)).trans h.2.2.2⟩)
      ?_ ⟨hJ 0 w W h0 (Abide.of_below hbW (Nat.le_refl _)), Nat.le_refl _, hWL, hWD⟩).mono ?_))
    · intro i x A hx ⟨hj, hs, hl, hd⟩
      refine ⟨fn, _, assign, body, run_yield hl (hps x), roundIn_of_wpIn hfn ?_⟩
      refine wpIn_mono (hround (w.heap.size + 1) i x A hx (Nat.le_succ _) hj) ?_
      rintro e a' B hp
      cases e with
      | normal =>
        obtain ⟨hk, hbody⟩ := hp
        have hl2 := hk.same _ _ (Nat.le_succ _) hl rfl
        have hd2 := hk.same _ _ (Nat.le_refl _) hd rfl
        obtain ⟨p3, p4⟩ := put B _ (.loop (R .busy none)) hl2
        refine ⟨_, run_beginRound hl2 rfl, ?_⟩
        refine wpIn_mono (hbody _ (Abide.putObj _ hl2 rfl (Nat.le_succ _))) ?_
        rintro e2 a3 C hp2
        cases e2 with
        | normal =>
          obtain ⟨hk3, hj3⟩ := hp2
          have hl3 := hk3.same _ _ (Nat.le_succ _) p3 rfl
          have hd3 := hk3.same _ _ (Nat.le_refl _) (p4 _ _ (by omega) hd2) rfl
          obtain ⟨q3, q4⟩ := put C _ (.loop (R .ready none)) hl3
          have hB2 : KeepI W.heap.size B (B.putObj (w.heap.size + 1) (.loop (R .busy none))) := KeepI.putObj _ (by omega)
          have hC2 : KeepI W.heap.size C (C.putObj (w.heap.size + 1) (.loop (R .ready none))) := KeepI.putObj _ (by omega)
          refine ⟨_, _, run_endRound none hl3, rfl, ⟨hJ _ _ _ hj3 (Abide.putObj _ hl3 rfl (Nat.le_succ _)), ?_, q3, q4 _ _ (by omega) hd3⟩, ?_⟩
          · exact Nat.le_trans hs (Nat.le_trans hk.size (Nat.le_trans hB2.size (Nat.le_trans hk3.size hC2.size)))
          · exact ((hk.mono hbW.size).trans hB2).trans ((hk3.mono hbW.size).trans hC2)
        | ret => exact hp2.elim
        | exit id => exact hp2.elim
        | goto t => exact hp2.elim
        | panic ch => exact hp2.elim
        | outgrown => exact hp2.elim
      | _ => exact hp.elim
    · rintro e B ⟨⟨v, rfl⟩, hj, _, hl, hd⟩
      obtain ⟨q3, q4⟩ := put B _ (.loop (R .exhausted none)) hl
      exact ⟨none, _, run_endLoop hl (by simp [R]), hdone _ _ (Nat.le_refl _) (hJ _ _ _ hj (Abide.putObj _ hl rfl (Nat.le_succ _))) (q4 _ _ (by omega) hd)⟩

/-- nothing but cells changes -/
structure Kin (A B : World) : Prop where
  size : A.heap.size ≤ B.heap.size
  same : ∀ (b : Nat) (o : Obj), A.heap[b]? = some o → o.isCells = false → B.heap[b]? = some o
theorem Kin.refl (A : World) : Kin A A := ⟨Nat.le_refl _, fun _ _ h _ => h⟩
theorem Kin.trans {A B C : World} (h : Kin A B) (k : Kin B C) : Kin A C := ⟨Nat.le_trans h.size k.size, fun b o ho hd => k.same b o (h.same b o ho hd) hd⟩
theorem Kin.of_below {A B : World} (h : Below A.heap.size A B) : Kin A B := ⟨h.size, fun _ _ ho _ => heap_keep ho h⟩
theorem Kin.keep {A B : World} (h : Kin A B) (N : Nat) : KeepI N A B := ⟨h.size, fun b o _ ho hd => h.same b o ho hd⟩
theorem Kin.far {A B : World} {g : Nat} {o : Obj} (hg : A.heap[g]? = some o) (hc : o.isCells = true) (hs : A.heap.size ≤ B.heap.size) (hfar : ∀ k o, k ≠ g → A.heap[k]? = some o → B.heap[k]? = some o) : Kin A B :=
  ⟨hs, fun b q hq hd => hfar b q (fun e => by subst e; rw [hg] at hq; injection hq with hq; subst hq; rw [hc] at hd; cases hd) hq⟩
theorem Kin.grown {A B : World} {base : Nat} {e : TypeId} {size n : Nat} {v : Value} {cs : List Value} (h : A.ownsRow base e size v n cs) (hg : A.grownBy B v.ownBlock) : Kin A B :=
  ⟨hg.size, fun b q hq hd => (hg.block b (Array.getElem?_eq_some_iff.1 hq).1 (fun he => by
    rcases h.2 with ⟨rfl, _⟩ | ⟨g, cap, cur, rfl, hb, hgg, _⟩
    · cases he
    · simp only [Value.ownBlock] at he
      injection he with he
      subst he
      rw [hgg] at hq
      injection hq with hq
      subst hq
      cases hd)).trans hq⟩
section
variable {P : Program} {Q : Exit → Act → World → Prop} {ops : Array Oper} {w : World} {n : Nat} {ty : TypeId} {x y : Operand}
/-- an element of one cell is stored into a slice of the call's own -/
theorem own_at {base : Nat} {e : TypeId} {size : Nat} {v : Value} {cs : List Value} {i : Nat} (h : w.ownsRow base e size v n cs) (hi : i < n) : ∃ g cap, v = .slice (some ⟨g, 0, none⟩) n cap ∧ base ≤ g := by
  rcases h.2 with ⟨rfl, rfl⟩ | ⟨g, cap, cur, rfl, hb, _⟩
  · omega
  · exact ⟨g, cap, rfl, hb⟩
theorem wpList_ownStore {rest : List Oper} {o : Oper} {a : Act} {w : World} {base g cap i : Nat} {e : TypeId} {cs : List Value} (u : Value) (hw : Region.wanted o (yielded ops a.tmps) = true) (hown : w.ownsRow base e 1 (.slice (some ⟨g, 0, none⟩) n cap) n cs) (hi : i < n) (hz : (P.info? ty).map (·.size) = some 1) (h1 : u.oneCell' = true)
    (ho : o.op = .store ty x y) (hx : a.eval x = .pointer (some ((⟨g, 0, none⟩ : Addr).add i))) (hy : a.eval y = u)
    (h : ∀ W, W.ownsRow base e 1 (.slice (some ⟨g, 0, none⟩) n cap) n (cs.set i u) → (∀ k o, k ≠ g → w.heap[k]? = some o → W.heap[k]? = some o) → (∀ B v0, B ≤ g → Below B v0 w → Below B v0 W) → Kin w W → wpList P ops Q rest (a.put o.dst undef) W) : wpList P ops Q (o :: rest) a w := by
  have hst := World.ownsRow.stored hown i u
  rw [ad_base] at hx
  have hown' := hown
  rcases hown'.2 with ⟨hn, _⟩ | ⟨g', cap', cur, e1, hb, hg, hc, hm, hs, ht⟩
  · cases hn
  · simp only [Value.slice.injEq, Option.some.injEq, Addr.mk.injEq, and_true, true_and] at e1
    obtain ⟨rfl, rfl⟩ := e1
    have hlt : i < cur.size := by rw [hs]; omega
    refine wpList_run0 hw _ (xo_store1 g i cur cur[i] u hg (by simp [hlt]) hz h1 ho hx hy) (h _ hst.1 (fun k o hk h0 => ?_) (fun B v0 hB hbb => hbb.setCell hB _) (Kin.far hg rfl (by simp [World.setCell]) (fun k o hk h0 => ?_)))
    · exact (Below.heap_setCell w _ _ k hk).trans h0
    · exact (Below.heap_setCell w _ _ k hk).trans h0
end
theorem hOp_callA {P : Program} {o : Oper} {a : Act} {w : World} {K : Value → World → Prop} {fn : Func} (f : FuncId) (hf : P.funcs[f]? = some fn) (hname : (fn.name == "runtime.NumGoroutine") = false) (hb : fn.body.isNone = false) (x : Tmp) (xs : Array Operand) (lb : Array Value) (ts : Array TypeId) (ho : o.op = .call { callee := .value (.tmp x), args := xs, argTypes := ts })
    (hx : a.eval (.tmp x) = .func (.func f) #[] lb) (args : Array Value) (hargs : xs.map a.eval = args) (h : Calls P f (args ++ lb) w fun e w' => ∃ v, e = .returned v ∧ K v w') : hOp P o K a w := by
  unfold hOp execOp
  simp only [ho]
  have e : (do let d ← resolve a.eval { callee := .value (.tmp x), args := xs, argTypes := ts } o.type; invoke d.target d.args : Sem Next).run P w = .ok (.enter f (args ++ lb)) w := by
    have h1 : fn.name ≠ "runtime.NumGoroutine" := by simpa using hname
    have h2 : fn.body ≠ none := by
      intro e
      rw [e] at hb
      cases hb
    have hx' : a.tmps[x]?.getD undef = .func (.func f) #[] lb := by simpa [Act.eval] using hx
    subst hargs
    simp [resolve, Deferred.ofValue, invoke, go_sem, hx', callFunc, hf, h1, h2]
  rw [e]
  exact h
section
variable {P : Program}
theorem hOpI_val {o : Oper} {a : Act} {w : World} {K : Value → World → Prop} (v : Value) (h : (execOp a.eval o).run P w = .ok (.value v) w) (hk : K v w) : hOpI P o K a w := by
  unfold hOpI
  rw [h]
  exact hk
theorem hOpI_yield {R : Ending → World → Prop} {o : Oper} {a : Act} {w : World} {K : Value → World → Prop} (x : Tmp) (l : Nat) (xs : Array Operand) (ts : Array TypeId) (args : Array Value) (ho : o.op = .call { callee := .value (.tmp x), args := xs, argTypes := ts })
    (hx : a.eval (.tmp x) = .func (.yield l) #[] #[]) (hv : xs.map a.eval = args) (h : YieldAt Fence.wide 1 P l args w R) (hR : ∀ e w', R e w' → ∃ v, e = .returned v ∧ K v w') : hOpI P o K a w := by
  obtain ⟨fn, tmps, assign, body, hrun, hr⟩ := h
  have e : (execOp a.eval o).run P w = .ok (.round l fn tmps assign body) w := by
    have hx' : a.tmps[x]?.getD undef = .func (.yield l) #[] #[] := by simpa [Act.eval] using hx
    subst hv
    unfold execOp
    simp only [ho]
    simp [resolve, Deferred.ofValue, invoke, go_sem, hx', hrun]
  unfold hOpI
  rw [e]
  exact hr.mono hR
end
theorem oblM_cons {P : Program} {l0 r : List Oper} {I : (Nat → Bool) → (Nat → Value) → World → Prop} {o : Oper} {i : Nat} {A : (Nat → Value) → Act} (h : ∀ m vs W, ClosT l0 m → m i = false → (∀ k, depB o k = true → m k = true) → I m vs W → hOpI P o (fun v W' => I (setT m i) (setV vs i v) W') (A vs) W) (h2 : oblM P l0 I r (i + 1) (fun vs => (A vs).put o.dst (vs i))) : oblM P l0 I (o :: r) i A := ⟨h, h2⟩
/-- looks and calls that add to memory; then (place p) a yield, its denial -/
def YJ (p : Nat) (F : Nat → Value → Prop) (w0 : World) (T : Bool → World → Prop) (m : Nat → Bool) (vs : Nat → Value) (W : World) : Prop :=
  (∀ i, i < p → m i = true → F i (vs i)) ∧ (m p = false → m (p + 1) = false ∧ Below w0.heap.size w0 W) ∧ (m p = true → ∃ t, vs p = .bool t ∧ (m (p + 1) = true → vs (p + 1) = .bool (!t)) ∧ T t W)
section
variable {p : Nat} {F : Nat → Value → Prop} {w0 W : World} {T : Bool → World → Prop} {m m' : Nat → Bool} {vs : Nat → Value}
theorem YJ.step (h : YJ p F w0 T m vs W) (h9 : m p = false) {i : Nat} (hi : i < p) {v : Value} (hv : F i v) {W' : World} (hb : Below W.heap.size W W') : YJ p F w0 T (setT m i) (setV vs i v) W' := by
  obtain ⟨h1, h2, h3⟩ := h
  refine ⟨fun j hj hm => ?_, fun _ => ?_, fun hm => ?_⟩
  · unfold setT at hm
    unfold setV
    by_cases e : j = i
    · subst e; rw [if_pos rfl]; exact hv
    · rw [if_neg e] at hm ⊢; exact h1 j hj hm
  · unfold setT; rw [if_neg (by omega)]; exact ⟨(h2 h9).1, bel_step (h2 h9).2 hb⟩
  · unfold setT at hm; rw [if_neg (by omega), h9] at hm; cases hm
theorem YJ.yield (h : YJ p F w0 T m vs W) (h9 : m p = false) {t : Bool} {W' : World} (ht : T t W') : YJ p F w0 T (setT m p) (setV vs p (.bool t)) W' := by
  obtain ⟨h1, h2, h3⟩ := h
  have h10 := (h2 h9).1
  refine ⟨fun j hj hm => ?_, fun hm => ?_, fun _ => ⟨t, ?_, fun hm => ?_, ht⟩⟩
  · unfold setT at hm
    unfold setV
    rw [if_neg (by omega)] at hm ⊢
    exact h1 j hj hm
  · unfold setT at hm; rw [if_pos rfl] at hm; cases hm
  · unfold setV; rw [if_pos rfl]
  · unfold setT at hm; rw [if_neg (by omega), h10] at hm; cases hm
theorem YJ.last (h : YJ p F w0 T m vs W) (h9 : m p = true) {v : Value} (hv : ∀ t, vs p = .bool t → v = .bool (!t)) : YJ p F w0 T (setT m (p + 1)) (setV vs (p + 1) v) W := by
  obtain ⟨h1, h2, h3⟩ := h
  obtain ⟨t, e, _, ht⟩ := h3 h9
  refine ⟨fun j hj hm => ?_, fun hm => ?_, fun _ => ⟨t, ?_, fun _ => ?_, ht⟩⟩
  · unfold setT at hm
    unfold setV
    rw [if_neg (by omega)] at hm ⊢
    exact h1 j hj hm
  · unfold setT at hm; rw [if_neg (by omega), h9] at hm; cases hm
  · unfold setV; rw [if_neg (by omega)]; exact e
  · unfold setV; rw [if_pos rfl]; exact hv t e
theorem YJ.ext (he : ∀ i, i < p + 2 → m i = m' i) (h : YJ p F w0 T m vs W) : YJ p F w0 T m' vs W := by
  obtain ⟨h1, h2, h3⟩ := h
  refine ⟨fun i hi hm => h1 i hi (by rw [he i (by omega)]; exact hm), fun hm => ?_, fun hm => ?_⟩
  · rw [← he p (by omega)] at hm
    obtain ⟨a, b⟩ := h2 hm
    rw [he (p + 1) (by omega)] at a
    exact ⟨a, b⟩
  · rw [← he p (by omega)] at hm
    obtain ⟨t, a, b, c⟩ := h3 hm
    exact ⟨t, a, fun h => b (by rw [he (p + 1) (by omega)]; exact h), c⟩
end
/-- what place p waits for, by way of others -/
def reachB (l : List Oper) : Nat → Nat → Nat → Bool
  | 0, p, i => i == p
  | f + 1, p, i => i == p || (List.range l.length).any fun k => (match l[p]? with
    | some o => depB o k
    | none => false) && reachB l f k i
theorem reach_of {l : List Oper} {m : Nat → Bool} (h : ClosT l m) : ∀ (f p i : Nat), m p = true → reachB l f p i = true → m i = true
  | 0, p, i, hp, hr => by rw [reachB, beq_iff_eq] at hr; rw [hr]; exact hp
  | f + 1, p, i, hp, hr => by
    rw [reachB, Bool.or_eq_true, beq_iff_eq, List.any_eq_true] at hr
    rcases hr with rfl | ⟨k, _, hk⟩
    · exact hp
    · rw [Bool.and_eq_true] at hk
      obtain ⟨hk1, hk2⟩ := hk
      split at hk1
      · next o ho => exact reach_of h f k i (h p o ho hp k hk1) hk2
      · cases hk1
theorem notp {l : List Oper} {m : Nat → Bool} (h : ClosT l m) (p f : Nat) (hr : ((List.range p).all fun i => reachB l f p i) = true) {i : Nat} (hi : i < p) (hm : m i = false) : m p = false := by
  cases h9 : m p with
  | false => rfl
  | true =>
    have := reach_of h f p i h9 (List.all_eq_true.1 hr i (List.mem_range.2 hi))
    rw [this] at hm
    cases hm
end Go.Proofs.YtopicjdmajlndaaDoor.K

namespace Go.Proofs.YtopicjdmajlndaaDoor
set_option linter.unusedVariables false
set_option linter.unusedSimpArgs false
set_option linter.unusedSectionVars false
set_option maxRecDepth 8000
open Go.RowKit Go.Proofs.YtopicjdmajlndaaDoor.K
/-- a reading -/
structure Rd where
  who : Int
  when_ : Int
  kind : Int
  value : Int
/-- a slice's head -/
structure Hd where
  A : Option Addr
  n : Nat
  c : Nat
/-- an operation on a stream -/
structure Opn where
  b0 : Nat
  b1 : Nat
  b2 : Nat
  back : Bool
def rdC (r : Rd) : List Value := [.int .i64 r.who, .int .i64 r.when_, .int .i64 r.kind, .int .i64 r.value]
def boC (b : Bool) : List Value := [.bool b]
def wdC (n : Nat) : List Value := [.int .u64 (n : Int)]
def byC (n : Nat) : List Value := [.int .u8 (n : Int)]
def hdC (h : Hd) : List Value := [.slice h.A h.n h.c]
def opC (o : Opn) : List Value := [.int .u8 (o.b0 : Int), .int .u8 (o.b1 : Int), .int .u8 (o.b2 : Int), .bool o.back]
instance : Enc rdC 4 := ⟨fun _ => rfl, fun x u hu => by simp only [rdC, List.mem_cons, List.not_mem_nil, or_false] at hu; rcases hu with rfl | rfl | rfl | rfl <;> rfl, by omega⟩
instance : Enc boC 1 := ⟨fun _ => rfl, fun x u hu => by simp only [boC, List.mem_cons, List.not_mem_nil, or_false] at hu; subst hu; rfl, by omega⟩
instance : Enc wdC 1 := ⟨fun _ => rfl, fun x u hu => by simp only [wdC, List.mem_cons, List.not_mem_nil, or_false] at hu; subst hu; rfl, by omega⟩
instance : Enc byC 1 := ⟨fun _ => rfl, fun x u hu => by simp only [byC, List.mem_cons, List.not_mem_nil, or_false] at hu; subst hu; rfl, by omega⟩
instance : Enc hdC 1 := ⟨fun _ => rfl, fun x u hu => by simp only [hdC, List.mem_cons, List.not_mem_nil, or_false] at hu; subst hu; rfl, by omega⟩
instance : Enc opC 4 := ⟨fun _ => rfl, fun x u hu => by simp only [opC, List.mem_cons, List.not_mem_nil, or_false] at hu; rcases hu with rfl | rfl | rfl | rfl <;> rfl, by omega⟩
/-- the package's table of widths lies -/
def Gw (w : World) : Prop := w.rangeAt 0 0 [.int .i64 4, .int .i64 8, .int .i64 4, .int .i64 8]
theorem Gw.keep {w w' : World} (h : Gw w) (hb : Below w.heap.size w w') : Gw w' := fun j v hv => cell_keep (h j v hv) hb
/-- cells of a list -/
abbrev fl {α : Type} (E : α → List Value) (xs : List α) : List Value := xs.flatMap E
def fldI (r : Rd) : Nat → Int
  | 0 => r.who
  | 1 => r.when_
  | 2 => r.kind
  | _ => r.value
def widN : Nat → Nat
  | 0 => 4
  | 2 => 4
  | _ => 8
/-- field j lies within its width -/
def fokB (r : Rd) (j : Nat) : Bool := decide (0 ≤ fldI r j ∧ fldI r j < ((2 ^ widN j : Nat) : Int))
def vR (r : Rd) : Bool := fokB r 0 && fokB r 1 && fokB r 2 && fokB r 3
theorem vR_iff {r : Rd} : vR r = true ↔ (0 ≤ r.who ∧ r.who < 16) ∧ (0 ≤ r.when_ ∧ r.when_ < 256) ∧ (0 ≤ r.kind ∧ r.kind < 16) ∧ (0 ≤ r.value ∧ r.value < 256) := by
  simp only [vR, fokB, fldI, widN, Bool.and_eq_true, decide_eq_true_eq]
  constructor
  · rintro ⟨⟨⟨h0, h1⟩, h2⟩, h3⟩
    exact ⟨⟨h0.1, by have := h0.2; omega⟩, ⟨h1.1, by have := h1.2; omega⟩, ⟨h2.1, by have := h2.2; omega⟩, h3.1, by have := h3.2; omega⟩
  · rintro ⟨h0, h1, h2, h3⟩
    exact ⟨⟨⟨⟨h0.1, by have := h0.2; omega⟩, h1.1, by have := h1.2; omega⟩, h2.1, by have := h2.2; omega⟩, h3.1, by have := h3.2; omega⟩
theorem fok_of {r : Rd} (h : vR r = true) : ∀ j, j < 4 → fokB r j = true := by
  intro j hj
  simp only [vR, Bool.and_eq_true] at h
  obtain ⟨⟨⟨h0, h1⟩, h2⟩, h3⟩ := h
  have : j = 0 ∨ j = 1 ∨ j = 2 ∨ j = 3 := by omega
  rcases this with rfl | rfl | rfl | rfl <;> assumption
theorem vR_of {r : Rd} (h : ∀ j, j < 4 → fokB r j = true) : vR r = true := by
  simp only [vR, Bool.and_eq_true]
  exact ⟨⟨⟨h 0 (by omega), h 1 (by omega)⟩, h 2 (by omega)⟩, h 3 (by omega)⟩
theorem vR_no {r : Rd} (j : Nat) (hj : j < 4) (h : fokB r j = false) : vR r = false := by
  cases hv : vR r with
  | false => rfl
  | true => rw [fok_of hv j hj] at h; cases h
/-- the reading of three bytes -/
def decR (a b c : Nat) : Rd := ⟨((a % 16 : Nat) : Int), (b : Int), ((a / 16 : Nat) : Int), (c : Int)⟩
theorem vR_dec {a b c : Nat} (ha : a < 256) (hb : b < 256) (hc : c < 256) : vR (decR a b c) = true := by
  rw [vR_iff]
  simp only [decR]
  omega
/-- a stream: readings, and which are gone -/
def opS (most : Nat) (s : List Rd × List Bool) (o : Opn) : List Rd × List Bool :=
  if o.back then (if 0 < s.1.length then (if s.2.getD (o.b0 % s.1.length) false then s else (s.1, s.2.set (o.b0 % s.1.length) true)) else s)
  else if s.1.length < most then (s.1 ++ [decR o.b0 o.b1 o.b2], s.2 ++ [false]) else s
def madeS (most : Nat) (l : List Opn) : List Rd × List Bool := l.foldl (opS most) ([], [])
/-- what holds of such a stream -/
structure StO (most : Nat) (rs : List Rd) (gs : List Bool) : Prop where
  same : gs.length = rs.length
  most : rs.length ≤ most
  ok : ∀ r ∈ rs, vR r = true
theorem StO.op {most : Nat} {s : List Rd × List Bool} (h : StO most s.1 s.2) (o : Opn) (h0 : o.b0 < 256) (h1 : o.b1 < 256) (h2 : o.b2 < 256) : StO most (opS most s o).1 (opS most s o).2 := by
  unfold opS
  split
  · split
    · split
      · exact h
      · exact ⟨by simp [h.same], h.most, h.ok⟩
    · exact h
  · split
    · next hl =>
      refine ⟨by simp [h.same], by simp; omega, fun r hr => ?_⟩
      rcases List.mem_append.1 hr with hr | hr
      · exact h.ok r hr
      · rw [List.mem_singleton] at hr
        subst hr
        exact vR_dec h0 h1 h2
    · exact h
theorem StO.nil (most : Nat) : StO most [] [] := ⟨rfl, Nat.zero_le _, fun r hr => by cases hr⟩
/-- the readings that are not gone -/
def liveL : List Rd → List Bool → List Rd
  | r :: rs, g :: gs => if g then liveL rs gs else r :: liveL rs gs
  | _, _ => []
theorem liveL_take {rs : List Rd} : ∀ {gs : List Bool} {i : Nat} {r : Rd} {g : Bool}, rs[i]? = some r → gs[i]? = some g → liveL (rs.take (i + 1)) (gs.take (i + 1)) = liveL (rs.take i) (gs.take i) ++ (if g then [] else [r]) := by
  induction rs with
  | nil => intro gs i r g h; simp at h
  | cons r0 rs ih =>
    intro gs i r g hr hg
    cases gs with
    | nil => simp at hg
    | cons g0 gs =>
      cases i with
      | zero =>
        simp only [List.getElem?_cons_zero, Option.some.injEq] at hr hg
        subst hr hg
        simp [liveL]
      | succ i =>
        simp only [List.getElem?_cons_succ] at hr hg
        rw [List.take_succ_cons, List.take_succ_cons, List.take_succ_cons, List.take_succ_cons]
        simp only [liveL]
        rw [ih hr hg]
        split <;> simp
/-- column j of a stream in 2 ^ log rows -/
def colN (rs : List Rd) (gs : List Bool) (N j : Nat) : List Nat :=
  if j < 4 then rs.map (fun r => (fldI r j).toNat) ++ List.replicate (N - rs.length) 0 else gs.map (fun g => if g then 0 else 1) ++ List.replicate (N - gs.length) 0
def colsN (rs : List Rd) (gs : List Bool) (N : Nat) : List (List Nat) := (List.range 5).map (colN rs gs N)
def bitN (col : List Nat) (k : Nat) : List Nat := col.map fun x => x / 2 ^ k % 2
/-- the bit columns of the first j fields -/
def bitsN (cols : List (List Nat)) : Nat → List (List Nat)
  | 0 => []
  | j + 1 => bitsN cols j ++ (List.range (widN j)).map (bitN (cols.getD j []))
/-- the smallest power of two that is at least n, from w on -/
def widthN (n : Nat) : Nat → Nat → Nat
  | 0, w => w
  | f + 1, w => if w < n then widthN n f (2 * w) else w
end Go.Proofs.YtopicjdmajlndaaDoor

