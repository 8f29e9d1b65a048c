/- Several texts in one: Ke, Qa, Qb, Qc, Qg, Qk, Qt, Qu, Qx, Qz, Ra, Rc, Ya, Yb. -/
import Derived.Test.YtbecajihgbbgjaaDoorG01
import Derived.Laws.CopyRow
import Derived.Laws.IdiomCopy
import Derived.Great.FillDense
import Derived.Great.BuildSlice
import Derived.RangeFuncCalls
import Derived.Deep.Cut
import Derived.Deep.CutRange
import Derived.Deep.RegionWith
import Derived.TacticsInMore
import Derived.LoopNIn
import Derived.LoopIn
import Derived.RangeFuncNested
import Derived.RangeFuncBound
import Derived.RangeFuncLeaves
import Derived.RangeFuncBox
import Derived.Shelf.RegionOpen
import Derived.Laws.EntriesVeiled
import Derived.Sort.CutIn
import Derived.Laws.BytesArg
import Derived.Laws.Strings
set_option linter.unusedVariables false
set_option linter.unusedSimpArgs false
set_option linter.unusedSectionVars false
namespace Go.Proofs.YtbecajihgbbgjaaDoor.K
set_option maxRecDepth 8000
open Go.RowKit
section
variable {P : Program} {ev : Operand → Value} {o : Oper} {w : World} {ty t : TypeId} {x y z : Operand}
theorem wrapI {z : Int} (h1 : -9223372036854775808 ≤ z) (h2 : z < 9223372036854775808) : IntKind.i64.wrap z = z := by rw [IntKind.wrap_i64]; omega
theorem xo_arith (b : BinOp) (k : IntKind) (u v r : Int) (hr : (Op.intArith b k u v).run P w = .ok (.int k r) w) (hb : b = .add ∨ b = .sub ∨ b = .mul) (ho : o.op = .binOp b ty x y t) (hx : ev x = .int k u) (hy : ev y = .int k v) :
  (execOp ev o).run P w = .ok (.value (.int k r)) w := by
 unfold execOp
 rcases hb with rfl | rfl | rfl <;> simp [ho, hx, hy, eqGuard, binOp, Sem.run_bind, hr]
theorem xo_add (k : IntKind) (u v r : Int) (h : k.wrap (u + v) = r) (ho : o.op = .binOp .add ty x y t) (hx : ev x = .int k u) (hy : ev y = .int k v) : (execOp ev o).run P w = .ok (.value (.int k r)) w :=
 xo_arith .add k u v r (by rw [← h]; rfl) (.inl rfl) ho hx hy
theorem xo_sub (k : IntKind) (u v r : Int) (h : k.wrap (u - v) = r) (ho : o.op = .binOp .sub ty x y t) (hx : ev x = .int k u) (hy : ev y = .int k v) : (execOp ev o).run P w = .ok (.value (.int k r)) w :=
 xo_arith .sub k u v r (by rw [← h]; rfl) (.inr (.inl rfl)) ho hx hy
theorem xo_mul (k : IntKind) (u v r : Int) (h : k.wrap (u * v) = r) (ho : o.op = .binOp .mul ty x y t) (hx : ev x = .int k u) (hy : ev y = .int k v) : (execOp ev o).run P w = .ok (.value (.int k r)) w :=
 xo_arith .mul k u v r (by rw [← h]; rfl) (.inr (.inr rfl)) ho hx hy
theorem xo_addI (u v r : Int) (h : u + v = r) (h1 : -9223372036854775808 ≤ r) (h2 : r < 9223372036854775808) (ho : o.op = .binOp .add ty x y t) (hx : ev x = .int .i64 u) (hy : ev y = .int .i64 v) : (execOp ev o).run P w = .ok (.value (.int .i64 r)) w :=
 xo_add _ u v r (by rw [h, wrapI h1 h2]) ho hx hy
theorem xo_subI (u v r : Int) (h : u - v = r) (h1 : -9223372036854775808 ≤ r) (h2 : r < 9223372036854775808) (ho : o.op = .binOp .sub ty x y t) (hx : ev x = .int .i64 u) (hy : ev y = .int .i64 v) : (execOp ev o).run P w = .ok (.value (.int .i64 r)) w :=
 xo_sub _ u v r (by rw [h, wrapI h1 h2]) ho hx hy
theorem xo_addU (u v r : Nat) (h : (u + v) % 18446744073709551616 = r) (ho : o.op = .binOp .add ty x y t) (hx : ev x = .int .u64 (u : Int)) (hy : ev y = .int .u64 (v : Int)) : (execOp ev o).run P w = .ok (.value (.int .u64 (r : Int))) w :=
 xo_add _ (u : Int) (v : Int) (r : Int) (by rw [IntKind.wrap_u64]; omega) ho hx hy
theorem xo_mulU (u v r : Nat) (h : (u * v) % 18446744073709551616 = r) (ho : o.op = .binOp .mul ty x y t) (hx : ev x = .int .u64 (u : Int)) (hy : ev y = .int .u64 (v : Int)) : (execOp ev o).run P w = .ok (.value (.int .u64 (r : Int))) w :=
 xo_mul _ (u : Int) (v : Int) (r : Int) (by rw [IntKind.wrap_u64, ← Int.natCast_mul]; omega) ho hx hy
theorem xo_div (b : BinOp) (k : IntKind) (u v r : Int) (hv : v ≠ 0) (hb : (b = .quo ∧ k.wrap (u.tdiv v) = r) ∨ (b = .rem ∧ u.tmod v = r)) (ho : o.op = .binOp b ty x y t) (hx : ev x = .int k u) (hy : ev y = .int k v) :
  (execOp ev o).run P w = .ok (.value (.int k r)) w := by
 unfold execOp
 rcases hb with ⟨rfl, rfl⟩ | ⟨rfl, rfl⟩ <;> simp [ho, hx, hy, eqGuard, binOp, Sem.run_bind, Op.intDiv, hv]
theorem xo_remN (k : IntKind) (u v r : Nat) (hv : 1 ≤ v) (h : u % v = r) (ho : o.op = .binOp .rem ty x y t) (hx : ev x = .int k (u : Int)) (hy : ev y = .int k (v : Int)) : (execOp ev o).run P w = .ok (.value (.int k (r : Int))) w :=
 xo_div .rem k (u : Int) (v : Int) (r : Int) (by omega) (.inr ⟨rfl, by rw [Int.tmod_eq_emod_of_nonneg (by omega), ← h]; simp⟩) ho hx hy
theorem xo_quoI (u v r : Nat) (hv : 1 ≤ v) (h : u / v = r) (hu : u < 9223372036854775808) (ho : o.op = .binOp .quo ty x y t) (hx : ev x = .int .i64 (u : Int)) (hy : ev y = .int .i64 (v : Int)) : (execOp ev o).run P w = .ok (.value (.int .i64 (r : Int))) w :=
 xo_div .quo _ (u : Int) (v : Int) (r : Int) (by omega) (.inl ⟨rfl, by
  have h3 : u / v ≤ u := Nat.div_le_self _ _
  rw [Int.tdiv_eq_ediv_of_nonneg (by omega), ← Int.natCast_ediv, h, wrapI (by omega) (by omega)]⟩) ho hx hy
theorem xo_shrN (k kk : IntKind) (u n r : Nat) (hn : n < k.bits) (h : u / 2 ^ n = r) (ho : o.op = .binOp .shr ty x y t) (hx : ev x = .int k (u : Int)) (hy : ev y = .int kk (n : Int)) : (execOp ev o).run P w = .ok (.value (.int k (r : Int))) w := by
 have e : (u : Int).fdiv (2 ^ n) = ((u / 2 ^ n : Nat) : Int) := by
  rw [Int.fdiv_eq_ediv_of_nonneg _ (by exact Int.le_of_lt (Int.pow_pos (by decide)))]
  simp
 have hm : min (n : Int).toNat k.bits = n := by rw [Int.toNat_natCast]; omega
 have hs : (Op.shift .shr k (u : Int) kk (n : Int)).run P w = .ok (.int k (r : Int)) w := by
  unfold Op.shift
  rw [if_neg (by omega), hm]
  show (Pure.pure (Value.int k ((u : Int).fdiv (2 ^ n))) : Sem Value).run P w = _
  rw [e, h]
  rfl
 unfold execOp
 simp [ho, hx, hy, eqGuard, binOp, Sem.run_bind, hs]
theorem xo_cmp (b : BinOp) (k : IntKind) (u v : Int) (r : Bool) (hr : (b = .eql ∧ (u == v) = r) ∨ (b = .neq ∧ (u != v) = r) ∨ (b = .lss ∧ decide (u < v) = r) ∨ (b = .leq ∧ decide (u ≤ v) = r) ∨ (b = .gtr ∧ decide (u > v) = r) ∨ (b = .geq ∧ decide (u ≥ v) = r))
  (ho : o.op = .binOp b ty x y t) (hx : ev x = .int k u) (hy : ev y = .int k v) : (execOp ev o).run P w = .ok (.value (.bool r)) w := by
 unfold execOp
 rcases hr with ⟨rfl, rfl⟩ | ⟨rfl, rfl⟩ | ⟨rfl, rfl⟩ | ⟨rfl, rfl⟩ | ⟨rfl, rfl⟩ | ⟨rfl, rfl⟩ <;> simp [ho, hx, hy, eqGuard, binOp, Sem.run_bind, Op.intCmp]
theorem xo_eqlT (k : IntKind) (u v : Int) (h : u = v) (ho : o.op = .binOp .eql ty x y t) (hx : ev x = .int k u) (hy : ev y = .int k v) : (execOp ev o).run P w = .ok (.value (.bool true)) w := xo_cmp _ k u v _ (.inl ⟨rfl, by simp [h]⟩) ho hx hy
theorem xo_eqlF (k : IntKind) (u v : Int) (h : u ≠ v) (ho : o.op = .binOp .eql ty x y t) (hx : ev x = .int k u) (hy : ev y = .int k v) : (execOp ev o).run P w = .ok (.value (.bool false)) w := xo_cmp _ k u v _ (.inl ⟨rfl, by simp [h]⟩) ho hx hy
theorem xo_neqT (k : IntKind) (u v : Int) (h : u ≠ v) (ho : o.op = .binOp .neq ty x y t) (hx : ev x = .int k u) (hy : ev y = .int k v) : (execOp ev o).run P w = .ok (.value (.bool true)) w := xo_cmp _ k u v _ (.inr (.inl ⟨rfl, by simp [h]⟩)) ho hx hy
theorem xo_neqF (k : IntKind) (u v : Int) (h : u = v) (ho : o.op = .binOp .neq ty x y t) (hx : ev x = .int k u) (hy : ev y = .int k v) : (execOp ev o).run P w = .ok (.value (.bool false)) w := xo_cmp _ k u v _ (.inr (.inl ⟨rfl, by simp [h]⟩)) ho hx hy
theorem xo_lssT (k : IntKind) (u v : Int) (h : u < v) (ho : o.op = .binOp .lss ty x y t) (hx : ev x = .int k u) (hy : ev y = .int k v) : (execOp ev o).run P w = .ok (.value (.bool true)) w := xo_cmp _ k u v _ (.inr (.inr (.inl ⟨rfl, decide_eq_true h⟩))) ho hx hy
theorem xo_lssF (k : IntKind) (u v : Int) (h : ¬ u < v) (ho : o.op = .binOp .lss ty x y t) (hx : ev x = .int k u) (hy : ev y = .int k v) : (execOp ev o).run P w = .ok (.value (.bool false)) w := xo_cmp _ k u v _ (.inr (.inr (.inl ⟨rfl, decide_eq_false h⟩))) ho hx hy
theorem xo_leqT (k : IntKind) (u v : Int) (h : u ≤ v) (ho : o.op = .binOp .leq ty x y t) (hx : ev x = .int k u) (hy : ev y = .int k v) : (execOp ev o).run P w = .ok (.value (.bool true)) w := xo_cmp _ k u v _ (.inr (.inr (.inr (.inl ⟨rfl, decide_eq_true h⟩)))) ho hx hy
theorem xo_leqF (k : IntKind) (u v : Int) (h : ¬ u ≤ v) (ho : o.op = .binOp .leq ty x y t) (hx : ev x = .int k u) (hy : ev y = .int k v) : (execOp ev o).run P w = .ok (.value (.bool false)) w := xo_cmp _ k u v _ (.inr (.inr (.inr (.inl ⟨rfl, decide_eq_false h⟩)))) ho hx hy
theorem xo_gtrT (k : IntKind) (u v : Int) (h : u > v) (ho : o.op = .binOp .gtr ty x y t) (hx : ev x = .int k u) (hy : ev y = .int k v) : (execOp ev o).run P w = .ok (.value (.bool true)) w := xo_cmp _ k u v _ (.inr (.inr (.inr (.inr (.inl ⟨rfl, decide_eq_true h⟩))))) ho hx hy
theorem xo_gtrF (k : IntKind) (u v : Int) (h : ¬ u > v) (ho : o.op = .binOp .gtr ty x y t) (hx : ev x = .int k u) (hy : ev y = .int k v) : (execOp ev o).run P w = .ok (.value (.bool false)) w := xo_cmp _ k u v _ (.inr (.inr (.inr (.inr (.inl ⟨rfl, decide_eq_false h⟩))))) ho hx hy
theorem xo_geqT (k : IntKind) (u v : Int) (h : u ≥ v) (ho : o.op = .binOp .geq ty x y t) (hx : ev x = .int k u) (hy : ev y = .int k v) : (execOp ev o).run P w = .ok (.value (.bool true)) w := xo_cmp _ k u v _ (.inr (.inr (.inr (.inr (.inr ⟨rfl, decide_eq_true h⟩))))) ho hx hy
theorem xo_geqF (k : IntKind) (u v : Int) (h : ¬ u ≥ v) (ho : o.op = .binOp .geq ty x y t) (hx : ev x = .int k u) (hy : ev y = .int k v) : (execOp ev o).run P w = .ok (.value (.bool false)) w := xo_cmp _ k u v _ (.inr (.inr (.inr (.inr (.inr ⟨rfl, decide_eq_false h⟩))))) ho hx hy
theorem xo_cvt {src dst : TypeId} (k1 k : IntKind) (u r : Int) (h : k.wrap u = r) (hu : P.underlying dst = some (.int k)) (hs : P.underlying src = some (.int k1)) (ho : o.op = .convert src dst x) (hx : ev x = .int k1 u) : (execOp ev o).run P w = .ok (.value (.int k r)) w := by
 unfold execOp
 simp only [ho, hx, convert, Sem.run_bind]
 rw [run_underlying hs, Result.andThen_ok, run_underlying hu, Result.andThen_ok]
 simp only [Conv.intToInt, h]
 rfl
theorem xo_min {ts : Array TypeId} (k : IntKind) (u v r : Int) (h : (if v < u then v else u) = r) (ho : o.op = .call { callee := .builtin .min, args := #[x, y], argTypes := ts }) (hx : ev x = .int k u) (hy : ev y = .int k v) : (execOp ev o).run P w = .ok (.value (.int k r)) w := by
 unfold execOp
 simp [ho, resolve, invoke, builtin, Builtin.min_, Builtin.min2, Sem.run_bind, hx, hy, h]
theorem xo_max {ts : Array TypeId} (k : IntKind) (u v r : Int) (h : (if v > u then v else u) = r) (ho : o.op = .call { callee := .builtin .max, args := #[x, y], argTypes := ts }) (hx : ev x = .int k u) (hy : ev y = .int k v) : (execOp ev o).run P w = .ok (.value (.int k r)) w := by
 unfold execOp
 subst h
 simp [ho, resolve, invoke, builtin, Builtin.max_, Builtin.max2, Sem.run_bind, hx, hy]
theorem xo_len {e : TypeId} (A : Option Addr) (n c : Nat) (hu : P.underlying ty = some (.slice e)) (ho : o.op = .call { callee := .builtin .len, args := #[x], argTypes := #[ty] }) (hx : ev x = .slice A n c) : (execOp ev o).run P w = .ok (.value (.int .i64 (n : Int))) w := by
 unfold execOp
 simp only [ho, resolve, invoke, builtin, Builtin.len_, Sem.run_bind, Sem.run_pure, Result.andThen_ok, List.map_toArray, List.map_cons, List.map_nil, hx, List.getElem?_toArray, List.getElem?_cons_zero]
 rw [run_underlying hu, Result.andThen_ok]
 rfl
theorem xo_field (i g off : Nat) (fs : Array Field) (f : Field) (inf : TypeInfo) (hu : P.underlying ty = some (.struct fs)) (hf : fs[i]? = some f) (hi : P.info? f.type = some inf) (hs : inf.size ≠ 0) (ho : o.op = .fieldAddr ty x i) (hx : ev x = .pointer (some ⟨g, off, none⟩)) :
  (execOp ev o).run P w = .ok (.value (.pointer (some ⟨g, off + f.offset, none⟩))) w := by
 have hz : (sizeOf f.type).run P w = .ok inf.size w := by simp [sizeOf, typeInfo, Sem.run_bind, hi]
 unfold execOp
 simp only [ho, hx, Instr.fieldAt, Sem.run_bind]
 rw [run_underlying hu, Result.andThen_ok]
 simp only [hf, Sem.run_bind, Instr.sureAddr, Sem.run_pure, Result.andThen_ok, fieldPlace]
 rw [hz, Result.andThen_ok, if_neg hs]
 simp [Addr.add_mid]
/-- the field's place, as the program lays it out -/
def fldOK (P : Program) (ty : TypeId) (i j : Nat) : Bool :=
 match P.underlying ty with
 | some (.struct fs) => (match fs[i]? with
  | some f => f.offset == j && (match P.info? f.type with
   | some inf => inf.size != 0
   | none => false)
  | none => false)
 | _ => false
theorem xo_fld (i g off j : Nat) (h : fldOK P ty i j = true) (ho : o.op = .fieldAddr ty x i) (hx : ev x = .pointer (some ⟨g, off, none⟩)) : (execOp ev o).run P w = .ok (.value (.pointer (some ⟨g, off + j, none⟩))) w := by
 unfold fldOK at h
 split at h
 ·rename_i fs hu
  split at h
  ·rename_i f hf
   simp only [Bool.and_eq_true, beq_iff_eq] at h
   obtain ⟨rfl, h⟩ := h
   split at h
   ·rename_i inf hi
    exact xo_field i g off fs f inf hu hf hi (by simpa using h) ho hx
   ·cases h
  ·cases h
 ·cases h
theorem xo_fld0 (i g j : Nat) (h : fldOK P ty i j = true) (ho : o.op = .fieldAddr ty x i) (hx : ev x = .pointer (some ⟨g, 0, none⟩)) : (execOp ev o).run P w = .ok (.value (.pointer (some ⟨g, j, none⟩))) w := by
 have := xo_fld (w := w) i g 0 j h ho hx
 rw [Nat.zero_add] at this
 exact this
theorem xo_index {e : TypeId} (k : IntKind) (ad : Addr) (n c i s : Nat) (hi : i < n) (hu : P.underlying ty = some (.slice e)) (hs : (P.info? e).map (·.size) = some s) (ho : o.op = .indexAddr ty x y) (hx : ev x = .slice (some ad) n c) (hy : ev y = .int k (i : Int)) :
  (execOp ev o).run P w = .ok (.value (.pointer (some (ad.add (i * s))))) w := by
 cases hq : P.info? e with
 | none => simp [hq] at hs
 | some inf =>
  have hz : (sizeOf e).run P w = .ok s w := by simp [sizeOf, typeInfo, Sem.run_bind, hq]; simpa [hq] using hs
  unfold execOp
  simp only [ho, hx, hy, Instr.indexAt, asIntOf, Sem.run_bind, Sem.run_pure, Result.andThen_ok]
  rw [run_underlying hu, Result.andThen_ok]
  simp only [Sem.run_bind, Sem.run_pure, Result.andThen_ok]
  rw [run_underlying hu, Result.andThen_ok]
  simp only [Sem.run_bind, Sem.run_pure, Result.andThen_ok]
  rw [if_pos (by omega), Sem.run_bind, hz]
  simp
theorem xo_load1 {d : TypeDesc} (a : Addr) (v : Value) (hc : w.cell? a = some v) (hu : P.underlying ty = some d) (hd : (match d with | .struct _ | .array _ _ => true | _ => false) = false) (ho : o.op = .load ty x) (hx : ev x = .pointer (some a)) : (execOp ev o).run P w = .ok (.value v) w := by
 unfold execOp
 simp only [ho, hx, Instr.loadAt, Instr.sureAddr, loadVar, Sem.run_bind, Sem.run_pure, Result.andThen_ok]
 rw [run_isAgg_plain hu hd]
 simp [hc]
theorem xo_loadR {d : TypeDesc} (b off : Nat) (cs : List Value) (hc : w.rangeAt b off cs) (hu : P.underlying ty = some d) (hd : d.isRow = true) (hi : (P.info? ty).map (·.size) = some cs.length) (ho : o.op = .load ty x) (hx : ev x = .pointer (some ⟨b, off, none⟩)) :
  (execOp ev o).run P w = .ok (.value (.agg cs.toArray)) w := by
 unfold execOp
 simp only [ho, hx, Sem.run_bind]
 rw [run_loadAt_mid w b off ty cs d hc hu hd hi]
 rfl
theorem xo_loadW {d : TypeDesc} {tt : TypeId} (g : Nat) (cs : Array Value) (hc : w.heap[g]? = some (.cells cs tt (0, 0))) (hu : P.underlying ty = some d) (hd : (match d with | .struct _ | .array _ _ => true | _ => false) = true) (hi : (P.info? ty).map (·.size) = some cs.size) (ho : o.op = .load ty x) (hx : ev x = .pointer (some ⟨g, 0, none⟩)) :
  (execOp ev o).run P w = .ok (.value (.agg cs)) w := by
 unfold execOp
 simp only [ho, hx, Instr.loadAt, Instr.sureAddr, Sem.run_bind, Sem.run_pure, Result.andThen_ok]
 rw [run_loadVar_row w g tt ty cs (0, 0) d hc hu hd hi]
 rfl
theorem xo_storeW {tt : TypeId} (g : Nat) (old cs : Array Value) (hc : w.heap[g]? = some (.cells old tt (0, 0))) (hi : (P.info? ty).map (·.size) = some cs.size) (hl : old.size = cs.size) (h1 : cs.all (·.oneCell') = true) (ho : o.op = .store ty x y) (hx : ev x = .pointer (some ⟨g, 0, none⟩)) (hy : ev y = .agg cs) :
  (execOp ev o).run P w = .ok .skip (w.setRow g cs) := by
 unfold execOp
 simp only [ho, hx, hy, Instr.storeAt, Instr.sureAddr, Sem.run_bind, Sem.run_pure, Result.andThen_ok]
 rw [run_storeVar_row w g tt ty old cs hc hi hl h1]
 rfl
theorem setCell_row (w : World) (g i : Nat) (cs : Array Value) (tt : TypeId) (fr : Nat × Nat) (v : Value) (hg : w.heap[g]? = some (.cells cs tt fr)) : (w.setCell ⟨g, i, none⟩ v).heap[g]? = some (.cells (cs.setIfInBounds i v) tt fr) := heap_setCell_at hg v
theorem xo_store1 {tt : TypeId} (g i : Nat) (cs : Array Value) (u v : Value) (hg : w.heap[g]? = some (.cells cs tt (0, 0))) (hi : cs[i]? = some u) (hz : (P.info? ty).map (·.size) = some 1) (h1 : v.oneCell' = true) (ho : o.op = .store ty x y) (hx : ev x = .pointer (some ⟨g, i, none⟩)) (hy : ev y = v) :
  (execOp ev o).run P w = .ok .skip (w.setCell ⟨g, i, none⟩ v) := by
 have hc : w.cell? ⟨g, i, none⟩ = some u := by rw [cell_of_row w g i cs tt (0, 0) hg]; exact hi
 have hfz : w.frozen? ⟨g, i, none⟩ = false := by simp [World.frozen?, hg]
 have hcell : v.cells = #[v] := by cases v <;> first | rfl | simp [Value.oneCell'] at h1
 cases hq : P.info? ty with
 | none => simp [hq] at hz
 | some inf =>
  have hs : inf.size = 1 := by simpa [hq] using hz
  unfold execOp
  simp only [ho, hx, hy, Instr.storeAt, Instr.sureAddr, Sem.run_bind, Sem.run_pure, Result.andThen_ok, storeVar, sizeOf, typeInfo, run_program, hq, hs, hcell]
  have ha : (⟨g, i, none⟩ : Addr).add 0 = ⟨g, i, none⟩ := by rw [Addr.add_mid, Nat.add_zero]
  simp [storeCells, Sem.run_bind, run_store P w _ v _ h1, ha, hc, hfz]
theorem xo_alloc (cs : Array Value) (hz : (zeroValue ty).run P w = .ok (.agg cs) w) (ho : o.op = .alloc ty) : (execOp ev o).run P w = .ok (.value (.pointer (some ⟨w.heap.size, 0, none⟩))) (w.alloc (.cells cs ty)) := by
 unfold execOp
 simp [ho, Instr.alloc, Sem.run_bind, hz, newVar, newRow, Value.cells]
theorem xo_alloc1 (v : Value) (h1 : v.oneCell' = true) (hz : (zeroValue ty).run P w = .ok v w) (ho : o.op = .alloc ty) : (execOp ev o).run P w = .ok (.value (.pointer (some ⟨w.heap.size, 0, none⟩))) (w.alloc (.cells #[v] ty)) := by
 have hcell : v.cells = #[v] := by cases v <;> first | rfl | simp [Value.oneCell'] at h1
 unfold execOp
 simp [ho, Instr.alloc, Sem.run_bind, hz, newVar, newRow, hcell]
end
end Go.Proofs.YtbecajihgbbgjaaDoor.K

namespace Go.Proofs.YtbecajihgbbgjaaDoor.K
open Go.RowKit
section
variable {P : Program} {Q : Exit → Act → World → Prop} {ops : Array Oper}
theorem xp_lt {w : World} {g : Nat} {o : Obj} (h : w.heap[g]? = some o) : g < w.heap.size := (Array.getElem?_eq_some_iff.1 h).1
theorem xp_lt0 {w : World} {g : Nat} {b : Nat} {o : Obj} (h : w.heap[g]? = some o) (hb : w.heap.size ≤ b) : g ≠ b := Nat.ne_of_lt (Nat.lt_of_lt_of_le (xp_lt h) hb)
/-- a new variable, before its first store -/
theorem wpList_new {rest : List Oper} {o : Oper} {a : Act} {w : World} (z : Array Value) (t : TypeId) (hw : Region.wanted o (yielded ops a.tmps) = true) (hr : (execOp a.eval o).run P w = .ok (.value (.pointer (some ⟨w.heap.size, 0, none⟩))) (w.alloc (.cells z t)))
  (h : ∀ b W, w.heap.size ≤ b → W.heap[b]? = some (.cells z t (0, 0)) → Below w.heap.size w W → wpList P ops Q rest (a.put o.dst (.pointer (some ⟨b, 0, none⟩))) W) : wpList P ops Q (o :: rest) a w :=
 wpList_run hw _ _ hr (h _ _ (Nat.le_refl _) (heap_new w _) ((Below.refl _ _).alloc (Nat.le_refl _) _))
/-- a store of a whole row -/
theorem wpList_storeW {rest : List Oper} {o : Oper} {a : Act} {w : World} (g : Nat) (old row : Array Value) (t : TypeId) (hw : Region.wanted o (yielded ops a.tmps) = true) (hg : w.heap[g]? = some (.cells old t (0, 0))) (hr : (execOp a.eval o).run P w = .ok .skip (w.setRow g row))
  (h : ∀ W, W.heap[g]? = some (.cells row t (0, 0)) → (∀ k o, k ≠ g → w.heap[k]? = some o → W.heap[k]? = some o) → (∀ B v0, B ≤ g → Below B v0 w → Below B v0 W) → W.heap.size = w.heap.size → wpList P ops Q rest (a.put o.dst undef) W) : wpList P ops Q (o :: rest) a w := by
 refine wpList_run0 hw _ hr (h _ ?_ (fun k o hk h0 => ?_) (fun B v0 hB hb => bel_setRow hb hB _) (by simp [World.setRow]))
 ·simp [World.setRow, Array.getElem?_modify, hg]
 ·simp [World.setRow, Array.getElem?_modify, Ne.symm hk, h0]
/-- a store of one cell -/
theorem wpList_store1 {rest : List Oper} {o : Oper} {a : Act} {w : World} (g i : Nat) (cs : Array Value) (v : Value) (t : TypeId) (hw : Region.wanted o (yielded ops a.tmps) = true) (hg : w.heap[g]? = some (.cells cs t (0, 0))) (hr : (execOp a.eval o).run P w = .ok .skip (w.setCell ⟨g, i, none⟩ v))
  (h : ∀ W, W.heap[g]? = some (.cells (cs.setIfInBounds i v) t (0, 0)) → (∀ k o, k ≠ g → w.heap[k]? = some o → W.heap[k]? = some o) → (∀ B v0, B ≤ g → Below B v0 w → Below B v0 W) → W.heap.size = w.heap.size → wpList P ops Q rest (a.put o.dst undef) W) : wpList P ops Q (o :: rest) a w := by
 refine wpList_run0 hw _ hr (h _ (setCell_row w g i cs t (0, 0) v hg) (fun k o hk h0 => ?_) (fun B v0 hB hb => hb.setCell hB _) (by simp [World.setCell]))
 exact (Below.heap_setCell w _ _ k hk).trans h0
end
end Go.Proofs.YtbecajihgbbgjaaDoor.K

namespace Go.Proofs.YtbecajihgbbgjaaDoor.K
open Go.RowKit
section
variable {P : Program} {ev : Operand → Value} {o : Oper} {w : World} {ty e : TypeId} {x y : Operand}
theorem xo_take (k1 : IntKind) (A : Option Addr) (n c k : Nat) (hk : k ≤ c) (hu : P.underlying ty = some (.slice e)) (hi : (P.info? e).isSome = true) (ho : o.op = .slice ty x none (some y) none) (hx : ev x = .slice A n c) (hy : ev y = .int k1 (k : Int)) :
  (execOp ev o).run P w = .ok (.value (.slice A k c)) w := by
 obtain ⟨inf, hq⟩ := Option.isSome_iff_exists.1 hi
 have hb : (Instr.sliceBound (.int k1 (k : Int)) c .sliceAcap).run P w = .ok k w := by
  simp [Instr.sliceBound, asIntOf, Sem.run_bind, hk]
 unfold execOp
 simp only [ho, Option.map, Sem.run_bind, Instr.sliceAt, hx, hy]
 rw [run_underlying hu, Result.andThen_ok]
 simp only [Instr.slice, Sem.run_bind]
 rw [run_underlying hu, Result.andThen_ok]
 simp only [Instr.sliceBounds, Sem.run_bind, Sem.run_pure, Result.andThen_ok, Option.isSome, if_true]
 rw [hb]
 have ha : A.map (fun x => x.add 0) = A := by
  cases A with
  | none => rfl
  | some a => simp [Addr.add_zero']
 simp [sizeOf, typeInfo, Sem.run_bind, hq, ha]
end
/-- m elements of so many cells each, read behind an address (none, if there are none) -/
structure SrcC (w : World) (A : Option Addr) (m size : Nat) (cs : List Value) : Prop where
 len : cs.length = m * size
 nil : A = none → m = 0
 cell : ∀ j u, cs[j]? = some u → ∃ ad, A = some ad ∧ w.cell? (ad.add j) = some u
 one : ∀ u ∈ cs, u.oneCell' = true
theorem SrcC.keep {w w' : World} {A : Option Addr} {m size : Nat} {cs : List Value} (h : SrcC w A m size cs) (hb : Below w.heap.size w w') : SrcC w' A m size cs :=
 ⟨h.len, h.nil, fun j u hj => by obtain ⟨ad, e, hc⟩ := h.cell j u hj; exact ⟨ad, e, cell_keep hc hb⟩, h.one⟩
section
variable {P : Program} {w w' : World} {base : Nat} {e : TypeId} {size n : Nat} {v : Value} {cs : List Value}
theorem own_keep (h : w.ownsRow base e size v n cs) (hb : Below w.heap.size w w') : w'.ownsRow base e size v n cs := by
 refine ⟨h.1, ?_⟩
 rcases h.2 with hn | ⟨g, cap, cur, rfl, hbs, hgg, rest⟩
 ·exact .inl hn
 ·exact .inr ⟨g, cap, cur, rfl, hbs, heap_keep hgg hb, rest⟩
theorem own_form (h : w.ownsRow base e size v n cs) : ∃ A c, v = .slice A n c := by
 rcases h.2 with ⟨rfl, rfl⟩ | ⟨g, cap, cur, rfl, _⟩ <;> exact ⟨_, _, rfl⟩
theorem own_below (h : w.ownsRow base e size v n cs) (hg : w.grownBy w' v.ownBlock) (hbase : base ≤ w.heap.size) : Below base w w' :=
 ⟨hg.os, hg.tape, hg.output, hg.size, fun k hk => hg.block k (by omega) (fun he => by
  rcases h.2 with ⟨rfl, _⟩ | ⟨g, cap, cur, rfl, hbs, _⟩
  ·cases he
  ·simp only [Value.ownBlock] at he
   injection he with he
   omega)⟩
/-- a new empty slice -/
theorem own_new {b : Nat} (h : w.heap[b]? = some (.cells #[] e (0, 0))) (hb : base ≤ b) : w.ownsRow base e size (.slice (some ⟨b, 0, none⟩) 0 0) 0 [] :=
 ⟨by simp, .inr ⟨b, 0, #[], rfl, hb, h, Nat.le_refl _, Nat.zero_le _, by simp, by simp⟩⟩
theorem xo_empty {ev : Operand → Value} {o : Oper} {t : TypeId} (hu : P.underlying t = some (.slice e)) (hs : (P.info? e).map (·.size) = some size) (ho : o.op = .buildSlice t 0 #[]) (w : World) :
  (execOp ev o).run P w = .ok (.value (.slice (some ⟨w.heap.size, 0, none⟩) 0 0)) (w.alloc (.cells #[] e)) := by
 cases hq : P.info? e with
 | none => simp [hq] at hs
 | some inf =>
  unfold execOp
  simp only [ho, Instr.buildSlice, Sem.run_bind, List.map_toArray, List.map_nil]
  rw [run_underlying hu, Result.andThen_ok]
  have h0 : ∀ f : Nat → Value, Array.map f (Array.range 0) = #[] := fun f => by apply Array.ext' ; simp
  simp [sizeOf, typeInfo, hq, Instr.fill, newRow, Sem.run_bind, h0]
theorem own_mono {base' : Nat} (h : w.ownsRow base e size v n cs) (hb : base' ≤ base) : w.ownsRow base' e size v n cs :=
 ⟨h.1, h.2.elim .inl fun ⟨g, cap, cur, h1, h2, h3⟩ => .inr ⟨g, cap, cur, h1, Nat.le_trans hb h2, h3⟩⟩
theorem hOp_app {o : Oper} {a : Act} {K : Value → World → Prop} (s x : Operand) (t : TypeId) (ho : o.op = .call { callee := .builtin .append, args := #[s, x], argTypes := #[t, t] })
  (z : Value) (bytes : Nat) (ht : P.underlying t = some (.slice e)) (hinf : (P.info? e).map (fun i => (i.zero, i.size, i.bytes)) = some (some z, size, bytes)) (hzs : z.cells.size = size) (hsz : 0 < size)
  (hs : a.eval s = v) (hown : w.ownsRow base e size v n cs) (A : Option Addr) (m c : Nat) (ds : List Value) (hx : a.eval x = .slice A m c) (hd : SrcC w A m size ds) (h63 : n + m ≤ maxLen) (hbytes : (n + m) * bytes ≤ 140737488355328) (hbase : base ≤ w.heap.size)
  (h : ∀ v' w', w'.ownsRow base e size v' (n + m) (cs ++ ds) → w.grownBy w' v.ownBlock → (∀ k, v'.ownBlock = some k → v.ownBlock = some k ∨ w.heap.size ≤ k) → K v' w') : hOp P o K a w := by
 obtain ⟨i, hi, hz, hsize, hby⟩ := info_parts hinf
 cases A with
 | some ad =>
  have hnews : ∀ j u, ds[j]? = some u → w.cell? (ad.add j) = some u := fun j u hj => by
   obtain ⟨ad', e, hc⟩ := hd.cell j u hj
   injection e with e
   subst e
   exact hc
  obtain ⟨v', w', hr, h2, h3, _⟩ := run_append_own (P := P) w base t o.type e i z size bytes ht hi hz hsize hby hzs hsz v n cs hown ad m c ds hd.len hnews hd.one h63 hbytes hbase
  have hw : ∀ k, v'.ownBlock = some k → v.ownBlock = some k ∨ w.heap.size ≤ k := by
   intro k hk
   rcases hown.2 with ⟨rfl, rfl⟩ | ⟨g1, cap, cur, rfl, hb1, hg1, hcap, hmax, hsz1, htake⟩
   ·have hcs : cs = [] := List.eq_nil_of_length_eq_zero (by have := hown.1; omega)
    subst hcs
    obtain ⟨v2, w2, hr2, hown2, _⟩ := run_append_own (P := P) w w.heap.size t o.type e i z size bytes ht hi hz hsize hby hzs hsz (.slice none 0 0) 0 [] (World.ownsRow_nil w _ _ _) ad m c ds hd.len hnews hd.one h63 hbytes (Nat.le_refl _)
    rw [hr] at hr2
    injection hr2 with e1 e2
    subst e1 e2
    exact .inr (World.ownsRow.lt hown2 k hk).1
   ·by_cases hroom : n + m ≤ cap
    ·have hle : n * i.size + ds.length ≤ cap * i.size := by rw [hsize, hd.len, ← Nat.add_mul]; exact Nat.mul_le_mul_right _ hroom
     have hr2 := run_append_room_cells (P := P) w t o.type e i ht hi g1 0 n cap ad m c ds (by rw [hsize, hd.len]) hnews hd.one hroom
      (fun j hj => by
       simp [World.cell?, hg1]
       rw [hsz1, ← hsize]
       omega) (fun j hj => by simp [World.frozen?, hg1])
     rw [hr] at hr2
     injection hr2 with e1 e2
     subst e1
     exact .inl hk
    ·obtain ⟨v2, w2, hr2, hown2, _⟩ := run_append_arg_grows (P := P) w t o.type e i z size bytes ht hi hz hsize hby hzs hsz ⟨g1, 0, none⟩ n cap cs hown.1
      (fun j u hj => by
       rw [Addr.add_lit, Nat.zero_add]
       rw [← htake] at hj
       have hk := (List.getElem?_eq_some_iff.1 hj).1
       rw [List.getElem?_take_of_lt (by simp at hk; omega)] at hj
       simpa [World.cell?, hg1] using hj) ad m c ds hd.len hnews (by omega) h63 hbytes
     rw [hr] at hr2
     injection hr2 with e1 e2
     subst e1 e2
     exact .inr (World.ownsRow.lt hown2 k hk).1
  unfold hOp execOp
  simp only [ho, resolve, invoke, builtin, Sem.run_bind, Sem.run_pure, Result.andThen_ok, List.map_toArray, List.map_cons, List.map_nil, hs, hx, hr]
  exact h v' w' h2 h3 hw
 | none =>
  obtain rfl := hd.nil rfl
  have hl := hd.len
  rw [Nat.zero_mul] at hl
  obtain rfl : ds = [] := List.eq_nil_of_length_eq_zero hl
  obtain ⟨A, k, rfl⟩ := own_form hown
  have hnk : n ≤ k := by
   rcases hown.2 with ⟨e1, _⟩ | ⟨g, cap, cur, e1, hb, hg, hc, hm, hs, ht⟩
   ·injection e1 with e1 e2 e3; omega
   ·injection e1 with e1 e2 e3; omega
  have hr : (Builtin.append_ #[t, t] o.type #[.slice A n k, .slice none 0 c]).run P w = .ok (.slice A n k) w := by
   cases A <;> simp [Builtin.append_, run_underlying ht, sizeOf, typeInfo, hi, Builtin.lenOf, Builtin.firstCells, hnk, storeCells]
  unfold hOp execOp
  simp only [ho, resolve, invoke, builtin, Sem.run_bind, Sem.run_pure, Result.andThen_ok, List.map_toArray, List.map_cons, List.map_nil, hs, hx, hr]
  exact h _ w (by simpa using hown) ⟨rfl, rfl, rfl, Nat.le_refl _, fun _ _ _ => rfl⟩ fun k hk => .inl hk
variable {Q : Exit → Act → World → Prop} {ops : Array Oper}
theorem wpList_app2 {rest : List Oper} {o : Oper} {a : Act} (hw : Region.wanted o (yielded ops a.tmps) = true) (s x : Operand) (t : TypeId) (ho : o.op = .call { callee := .builtin .append, args := #[s, x], argTypes := #[t, t] })
  (z : Value) (bytes : Nat) (ht : P.underlying t = some (.slice e)) (hinf : (P.info? e).map (fun i => (i.zero, i.size, i.bytes)) = some (some z, size, bytes)) (hzs : z.cells.size = size) (hsz : 0 < size)
  (hs : a.eval s = v) (hown : w.ownsRow base e size v n cs) (A : Option Addr) (m c : Nat) (ds : List Value) (hx : a.eval x = .slice A m c) (hd : SrcC w A m size ds) (h63 : n + m ≤ maxLen) (hbytes : (n + m) * bytes ≤ 140737488355328) (hbase : base ≤ w.heap.size)
  (h : ∀ v' w', w'.ownsRow base e size v' (n + m) (cs ++ ds) → Below base w w' → w.grownBy w' v.ownBlock → (∀ k, v'.ownBlock = some k → v.ownBlock = some k ∨ w.heap.size ≤ k) → wpList P ops Q rest (a.put o.dst v') w') : wpList P ops Q (o :: rest) a w :=
 wpList_op hw (hOp_app s x t ho z bytes ht hinf hzs hsz hs hown A m c ds hx hd h63 hbytes hbase fun v' w' h1 h2 h3 => h v' w' h1 (own_below hown h2 hbase) h2 h3)
end
end Go.Proofs.YtbecajihgbbgjaaDoor.K

namespace Go.Proofs.YtbecajihgbbgjaaDoor.K
open Go.RowKit
section
variable {P : Program} {Q : Exit → Act → World → Prop} {ops : Array Oper} {S : World → Prop}
end
end Go.Proofs.YtbecajihgbbgjaaDoor.K


namespace Go.Proofs.YtbecajihgbbgjaaDoor.K
set_option maxRecDepth 8000
open Go.RowKit
/-- how an element lies in cells -/
class Enc {α : Type} (E : α → List Value) (k : outParam Nat) : Prop where
 len : ∀ x, (E x).length = k
 one : ∀ x, ∀ u ∈ E x, u.oneCell' = true
 pos : 0 < k
section
variable {α : Type} {E : α → List Value} {k : Nat} [hE : Enc E k]
theorem fl_length (xs : List α) : (xs.flatMap E).length = xs.length * k := by
 induction xs with
 | nil => simp
 | cons x xs ih => simp only [List.flatMap_cons, List.length_append, ih, hE.len, List.length_cons, Nat.add_mul]; omega
include hE in
theorem fl_one (xs : List α) : ∀ u ∈ xs.flatMap E, u.oneCell' = true := by
 intro u hu
 obtain ⟨x, _, h⟩ := List.mem_flatMap.1 hu
 exact hE.one x u h
theorem fl_take (xs : List α) : ∀ i, (xs.flatMap E).take (i * k) = (xs.take i).flatMap E := by
 induction xs with
 | nil => simp
 | cons x xs ih =>
  intro i
  cases i with
  | zero => simp
  | succ i =>
   have h1 : (i + 1) * k = (E x).length + i * k := by rw [hE.len, Nat.add_mul]; omega
   rw [List.flatMap_cons, h1, List.take_length_add_append, ih, List.take_succ_cons, List.flatMap_cons]
theorem fl_drop (xs : List α) : ∀ i, (xs.flatMap E).drop (i * k) = (xs.drop i).flatMap E := by
 induction xs with
 | nil => simp
 | cons x xs ih =>
  intro i
  cases i with
  | zero => simp
  | succ i =>
   have h1 : (i + 1) * k = (E x).length + i * k := by rw [hE.len, Nat.add_mul]; omega
   rw [List.flatMap_cons, h1, List.drop_length_add_append, ih, List.drop_succ_cons]
theorem fl_get {xs : List α} {i : Nat} {x : α} (h : xs[i]? = some x) (j : Nat) (hj : j < k) : (xs.flatMap E)[i * k + j]? = (E x)[j]? := by
 have hd : (xs.flatMap E)[i * k + j]? = ((xs.flatMap E).drop (i * k))[j]? := by rw [List.getElem?_drop]
 obtain ⟨hi, rfl⟩ := List.getElem?_eq_some_iff.1 h
 rw [hd, fl_drop, List.drop_eq_getElem_cons hi, List.flatMap_cons, List.getElem?_append_left (by rw [hE.len]; exact hj)]
theorem fl_set (xs : List α) (i : Nat) (y : α) (hi : i < xs.length) : (xs.flatMap E).take (i * k) ++ E y ++ (xs.flatMap E).drop (i * k + (E y).length) = (xs.set i y).flatMap E := by
 have h1 : i * k + (E y).length = (i + 1) * k := by rw [hE.len, Nat.add_mul]; omega
 rw [h1, fl_take, fl_drop, List.set_eq_take_append_cons_drop, if_pos hi, List.flatMap_append, List.flatMap_cons, List.append_assoc]
/-- the address of a cell behind a slice's head -/
def gad (A : Option Addr) (j : Nat) : Addr := match A with
 | some a => a.add j
 | none => ⟨0, 0, none⟩
theorem gad_base (b j : Nat) : gad (some ⟨b, 0, none⟩) j = ⟨b, j, none⟩ := by simp [gad, Addr.add_mid]
/-- a slice that reads as xs -/
structure Sg {α : Type} (E : α → List Value) (k : Nat) (w : World) (A : Option Addr) (n c : Nat) (xs : List α) : Prop where
 len : xs.length = n
 cap : n ≤ c
 top : c ≤ 9223372036854775807
 nil : A = none → c = 0
 at_ : ∀ i x, xs[i]? = some x → ∃ g off, A = some ⟨g, off, none⟩ ∧ w.rangeAt g (off + i * k) (E x)
variable {w w' : World} {A : Option Addr} {n c : Nat} {xs : List α}
theorem Sg.keep (h : Sg E k w A n c xs) (hb : Below w.heap.size w w') : Sg E k w' A n c xs :=
 ⟨h.len, h.cap, h.top, h.nil, fun i x hx => by obtain ⟨g, off, e, hr⟩ := h.at_ i x hx; exact ⟨g, off, e, fun j v hj => cell_keep (hr j v hj) hb⟩⟩
theorem Sg.nil_ (w : World) : Sg E k w none 0 0 ([] : List α) := ⟨rfl, Nat.le_refl _, by omega, fun _ => rfl, fun i x h => by simp at h⟩
theorem Sg.src (h : Sg E k w A n c xs) : SrcC w A n k (xs.flatMap E) :=
 ⟨by rw [fl_length, h.len], fun e => by have := h.nil e; have := h.cap; omega, fun j u hu => by
  have hk := hE.pos
  have hj : j < xs.length * k := by rw [← fl_length (E := E)]; exact (List.getElem?_eq_some_iff.1 hu).1
  have hi : j / k < xs.length := (Nat.div_lt_iff_lt_mul hk).2 hj
  have hm : j / k * k + j % k = j := Nat.div_add_mod' j k
  have hg := fl_get (E := E) (List.getElem?_eq_getElem hi) (j % k) (Nat.mod_lt _ hk)
  rw [hm, hu] at hg
  obtain ⟨g, off, e, hr⟩ := h.at_ (j / k) _ (List.getElem?_eq_getElem hi)
  refine ⟨_, e, ?_⟩
  have := hr (j % k) u hg.symm
  rw [Addr.add_mid]
  rwa [Nat.add_assoc, hm] at this, fl_one xs⟩
theorem Sg.take {m : Nat} (h : Sg E k w A n c xs) (hm : m ≤ n) : Sg E k w A m c (xs.take m) :=
 ⟨by rw [List.length_take, h.len]; omega, by have := h.cap; omega, h.top, h.nil, fun i x hx => h.at_ i x (by rw [List.getElem?_take] at hx; split at hx <;> simp_all)⟩
/-- a block that holds xs -/
def RowG {α : Type} (E : α → List Value) (w : World) (b : Nat) (t : TypeId) (xs : List α) : Prop := w.heap[b]? = some (.cells (xs.flatMap E).toArray t (0, 0))
theorem RowG.sg {b : Nat} {t : TypeId} (h : RowG E w b t xs) (hn : xs.length = n) (hc : n ≤ c) (ht : c ≤ 9223372036854775807) : Sg E k w (some ⟨b, 0, none⟩) n c xs :=
 ⟨hn, hc, ht, fun e => (by cases e), fun i x hx => ⟨b, 0, rfl, fun j v hv => by
  have hj : j < k := by rw [← hE.len x]; exact (List.getElem?_eq_some_iff.1 hv).1
  rw [cell_of_row w b _ _ t (0, 0) h, Nat.zero_add]
  rw [← hv, ← fl_get hx j hj]
  simp⟩⟩
theorem RowG.keep {b : Nat} {t : TypeId} (h : RowG E w b t xs) (hb : Below w.heap.size w w') : RowG E w' b t xs := heap_keep h hb
theorem ne_types {w : World} {a b : Nat} {cs ds : Array Value} {t u : TypeId} (h1 : w.heap[a]? = some (.cells cs t (0, 0))) (h2 : w.heap[b]? = some (.cells ds u (0, 0))) (h : t ≠ u) : a ≠ b := fun e => by
 subst e
 rw [h1] at h2
 injection h2 with h2
 injection h2 with _ h3
 exact h h3
theorem RowG.h {b : Nat} {t : TypeId} (h : RowG E w b t xs) : w.heap[b]? = some (.cells (xs.flatMap E).toArray t (0, 0)) := h
theorem RowG.lt {b : Nat} {t : TypeId} (h : RowG E w b t xs) : b < w.heap.size := xp_lt h
/-- a slice of the call's own -/
theorem Sg.own {base : Nat} {e : TypeId} {v : Value} (h : w.ownsRow base e k v n (xs.flatMap E)) : ∃ A c, v = .slice A n c ∧ Sg E k w A n c xs := by
 have hn : xs.length = n := by
  have h1 := h.1
  rw [fl_length] at h1
  exact Nat.eq_of_mul_eq_mul_right hE.pos h1
 rcases h.2 with ⟨rfl, rfl⟩ | ⟨g, cap, cur, rfl, hb, hg, hc, hm, hs, ht⟩
 ·have : xs = [] := List.eq_nil_of_length_eq_zero hn
  subst this
  exact ⟨_, _, rfl, Sg.nil_ w⟩
 ·refine ⟨_, cap, rfl, hn, hc, by unfold maxLen at hm; omega, fun e => (by cases e), fun i x hx => ⟨g, 0, rfl, fun j v hv => ?_⟩⟩
  have hj : j < k := by rw [← hE.len x]; exact (List.getElem?_eq_some_iff.1 hv).1
  have hi := (List.getElem?_eq_some_iff.1 hx).1
  have hlt : i * k + j < n * k := by
   have h1 : (i + 1) * k ≤ n * k := Nat.mul_le_mul_right _ (by omega)
   rw [Nat.add_mul] at h1
   omega
  rw [cell_of_row w g _ cur e (0, 0) hg, Nat.zero_add, ← hv, ← fl_get hx j hj, ← ht, List.getElem?_take, if_pos hlt]
  simp
theorem Sg.ownS {base : Nat} {e : TypeId} (h : w.ownsRow base e k (.slice A n c) n (xs.flatMap E)) : Sg E k w A n c xs := by
 obtain ⟨A2, c2, e1, hs⟩ := Sg.own h
 injection e1 with e1 _ e2
 subst e1 e2
 exact hs
variable {P : Program} {ev : Operand → Value} {o : Oper} {ty t : TypeId} {x y : Operand}
theorem xg_idx {e : TypeId} {i : Nat} {a : α} (kk : IntKind) (h : Sg E k w A n c xs) (ha : xs[i]? = some a) (hu : P.underlying ty = some (.slice e)) (hs : (P.info? e).map (·.size) = some k) (ho : o.op = .indexAddr ty x y) (hx : ev x = .slice A n c) (hy : ev y = .int kk (i : Int)) :
  (execOp ev o).run P w = .ok (.value (.pointer (some (gad A (i * k))))) w := by
 obtain ⟨g, off, rfl, _⟩ := h.at_ i a ha
 have hi := (List.getElem?_eq_some_iff.1 ha).1
 rw [h.len] at hi
 exact xo_index kk _ n c i k hi hu hs ho hx hy
/-- a cell of an element -/
theorem xg_load1 {d : TypeDesc} {i j q : Nat} {a : α} {v : Value} (h : Sg E k w A n c xs) (ha : xs[i]? = some a) (hq : q = i * k + j) (hv : (E a)[j]? = some v) (hu : P.underlying ty = some d) (hd : (match d with | .struct _ | .array _ _ => true | _ => false) = false) (ho : o.op = .load ty x) (hx : ev x = .pointer (some (gad A q))) :
  (execOp ev o).run P w = .ok (.value v) w := by
 obtain ⟨g, off, rfl, hr⟩ := h.at_ i a ha
 refine xo_load1 _ v ?_ hu hd ho hx
 subst hq
 have := hr j v hv
 simp only [gad, Addr.add_mid]
 rwa [← Nat.add_assoc]
/-- cells of an element, together -/
theorem xg_loadR {d : TypeDesc} {i j q : Nat} {a : α} {cs : List Value} (h : Sg E k w A n c xs) (ha : xs[i]? = some a) (hq : q = i * k + j) (hv : ∀ m u, cs[m]? = some u → (E a)[j + m]? = some u) (hu : P.underlying ty = some d) (hd : d.isRow = true) (hi : (P.info? ty).map (·.size) = some cs.length) (ho : o.op = .load ty x) (hx : ev x = .pointer (some (gad A q))) :
  (execOp ev o).run P w = .ok (.value (.agg cs.toArray)) w := by
 obtain ⟨g, off, rfl, hr⟩ := h.at_ i a ha
 subst hq
 refine xo_loadR g (off + (i * k + j)) cs (fun m u hm => ?_) hu hd hi ho (by rw [hx]; simp [gad, Addr.add_mid])
 have := hr (j + m) u (hv m u hm)
 rwa [show off + (i * k + j) + m = off + i * k + (j + m) by omega]
theorem xg_loadE {d : TypeDesc} {i : Nat} {a : α} (h : Sg E k w A n c xs) (ha : xs[i]? = some a) (hu : P.underlying ty = some d) (hd : d.isRow = true) (hi : (P.info? ty).map (·.size) = some k) (ho : o.op = .load ty x) (hx : ev x = .pointer (some (gad A (i * k)))) :
  (execOp ev o).run P w = .ok (.value (.agg (E a).toArray)) w :=
 xg_loadR (j := 0) h ha rfl (fun m u hm => by rw [Nat.zero_add]; exact hm) hu hd (by rw [hi, hE.len]) ho hx
/-- an element is stored into a block -/
theorem xg_store {b i : Nat} (h : RowG E w b t xs) (hi : i < xs.length) (a : α) (hs : (P.info? ty).map (·.size) = some k) (ho : o.op = .store ty x y) (hx : ev x = .pointer (some (gad (some ⟨b, 0, none⟩) (i * k)))) (hy : (ev y).cells = (E a).toArray) :
  (execOp ev o).run P w = .ok .skip (w.setRow b ((xs.set i a).flatMap E).toArray) := by
 have hst := run_storeCells_at P b (i * k) t (E a) 0 (xs.flatMap E).toArray w h (by
  have h1 : (i + 1) * k ≤ xs.length * k := Nat.mul_le_mul_right _ hi
  rw [Nat.add_mul] at h1
  simp only [List.size_toArray, fl_length, hE.len]
  omega) (hE.one a)
 rw [Nat.add_zero, List.toList_toArray] at hst
 rw [fl_set xs i a hi] at hst
 rw [gad_base] at hx
 cases hq : P.info? ty with
 | none => simp [hq] at hs
 | some inf =>
  have hsz : inf.size = k := by simpa [hq] using hs
  unfold execOp
  simp only [ho, hx, Instr.storeAt, Instr.sureAddr, Sem.run_bind, Sem.run_pure, Result.andThen_ok, storeVar, sizeOf, typeInfo, run_program, hq, hsz, hy]
  simp [hE.len, hst, Sem.run_bind]
/-- n new elements -/
theorem mk_cells (z : Value) (a : α) (hz : z.cells = (E a).toArray) (n : Nat) : madeCells z.cells (n * k) = ((List.replicate n a).flatMap E).toArray := by
 have hk := hE.pos
 apply Array.ext'
 apply List.ext_getElem?
 intro j
 by_cases hj : j < n * k
 ·have hi : j / k < n := (Nat.div_lt_iff_lt_mul hk).2 hj
  have hm : j / k * k + j % k = j := Nat.div_add_mod' j k
  have hg := fl_get (E := E) (xs := List.replicate n a) (i := j / k) (x := a) (by simp [List.getElem?_replicate, hi]) (j % k) (Nat.mod_lt _ hk)
  rw [hm] at hg
  rw [List.toList_toArray, hg, hz]
  have hlt : j % (E a).length < (E a).length := by rw [hE.len]; exact Nat.mod_lt _ hk
  simp only [madeCells, Array.toList_map, Array.toList_range, List.getElem?_map, List.size_toArray, List.getElem?_range hj, Option.map_some]
  rw [← hE.len a, List.getElem?_eq_getElem hlt]
  simp [hlt]
 ·rw [List.getElem?_eq_none (by rw [Array.length_toList, size_madeCells]; omega), List.getElem?_eq_none (by rw [List.toList_toArray, fl_length, List.length_replicate]; omega)]
theorem xg_make {e : TypeId} {bytes : Nat} (z : Value) (a : α) (m : Nat) (kl : IntKind) (ht : P.underlying ty = some (.slice e)) (hinf : (P.info? e).map (fun i => (i.zero, i.size, i.bytes)) = some (some z, k, bytes)) (hz : z.cells = (E a).toArray) (hb : bytes * m ≤ 281474976710656) (h63 : m ≤ 9223372036854775807)
  (ho : o.op = .makeSlice ty x y) (hx : ev x = .int kl (m : Int)) (hy : ev y = .int kl (m : Int)) :
  (execOp ev o).run P w = .ok (.value (.slice (some ⟨w.heap.size, 0, none⟩) m m)) (w.alloc (.cells ((List.replicate m a).flatMap E).toArray e)) := by
 obtain ⟨i, hi, hiz, hs, hby⟩ := info_parts hinf
 have hb' : (i.bytes : Int) * (m : Int) ≤ 281474976710656 := by
  have h : ((i.bytes * m : Nat) : Int) ≤ 281474976710656 := by rw [hby]; omega
  rwa [Int.natCast_mul] at h
 have hr := run_make (P := P) w ty e i z ht hi hiz kl kl m m (by omega) (Int.le_refl _) hb' (by omega)
 simp only [Int.toNat_natCast] at hr
 rw [hs, mk_cells z a hz] at hr
 unfold execOp
 simp [ho, hx, hy, Sem.run_bind, hr]
/-- bits in common, shifts -/
theorem xo_and (kk : IntKind) (u v r : Nat) (hu : u < 2 ^ kk.bits) (hv : v < 2 ^ kk.bits) (h : u &&& v = r) (hr : kk.wrap (r : Int) = (r : Int)) (ho : o.op = .binOp .and ty x y t) (hx : ev x = .int kk (u : Int)) (hy : ev y = .int kk (v : Int)) :
  (execOp ev o).run P w = .ok (.value (.int kk (r : Int))) w := by
 have e : (Op.intBits .and kk (u : Int) (v : Int)).run P w = .ok (.int kk (r : Int)) w := by
  have e1 : (BitVec.ofInt kk.bits (u : Int) &&& BitVec.ofInt kk.bits (v : Int)).toNat = r := by
   rw [BitVec.toNat_and]
   simp only [BitVec.ofInt_natCast, BitVec.toNat_ofNat, Nat.mod_eq_of_lt hu, Nat.mod_eq_of_lt hv, h]
  simp only [Op.intBits, e1, hr]
  rfl
 unfold execOp
 simp [ho, hx, hy, eqGuard, binOp, Sem.run_bind, e]
theorem xo_shlI (kk : IntKind) (u n r : Nat) (h : u * 2 ^ n = r) (hr : r < 9223372036854775808) (ho : o.op = .binOp .shl ty x y t) (hx : ev x = .int .i64 (u : Int)) (hy : ev y = .int kk (n : Int)) (hn : n < 63 := by omega) :
  (execOp ev o).run P w = .ok (.value (.int .i64 (r : Int))) w := by
 have hm : min (n : Int).toNat IntKind.i64.bits = n := by rw [Int.toNat_natCast]; show min n 64 = n; omega
 have e : (u : Int) * 2 ^ n = (r : Int) := by rw [← h]; simp
 have e0 : IntKind.i64.wrap ((u : Int) * 2 ^ n) = (r : Int) := by rw [e, wrapI (by omega) (by omega)]
 unfold execOp
 simp [ho, hx, hy, eqGuard, binOp, Sem.run_bind, hm]
 exact e0
/-- a slice literal -/
theorem xg_lit {e : TypeId} {bytes : Nat} (z : Value) (ys : List Operand) (xs : List α) (n : Nat) (ht : P.underlying ty = some (.slice e)) (hinf : (P.info? e).map (fun i => (i.zero, i.size, i.bytes)) = some (some z, k, bytes)) (hn : ys.length = n) (hsmall : ¬ n * k > 2 ^ 24) (hpos : ¬ n = 0)
  (ho : o.op = .buildSlice ty n ((ys.zipIdx 0).map fun x => (x.2, x.1)).toArray) (hv : ys.map (fun y => (ev y).cells.toList) = xs.map E) :
  (execOp ev o).run P w = .ok (.value (.slice (some ⟨w.heap.size, 0, none⟩) n n)) (w.alloc (.cells (xs.flatMap E).toArray e)) := by
 obtain ⟨i, hi, hz, hs, hby⟩ := info_parts hinf
 have hk := hE.pos
 have hxs : xs.length = ys.length := by have := congrArg List.length hv; simpa using this.symm
 have h1 : ∀ v ∈ ys.map ev, v.cells.size = k := by
  intro v hm
  obtain ⟨y, hy, rfl⟩ := List.mem_map.1 hm
  have : (ev y).cells.toList ∈ xs.map E := by rw [← hv]; exact List.mem_map.2 ⟨y, hy, rfl⟩
  obtain ⟨x, _, hx⟩ := List.mem_map.1 this
  have h2 := hE.len x
  rw [hx, Array.length_toList] at h2
  exact h2
 have hf := Great.fill_whole hk (ys.map ev) ((Array.range (n * k)).map (z.cells[· % z.cells.size]!)) h1 (by simp [hn])
 have he : ((ys.map ev).flatMap fun v => v.cells.toList) = xs.flatMap E := by
  rw [List.flatMap_map, List.flatMap_def, List.flatMap_def]
  exact congrArg List.flatten hv
 rw [he] at hf
 have hp : (((ys.zipIdx 0).map fun x => (x.2, x.1)).toArray.map fun (i, x) => (i, ev x)).toList = ((ys.map ev).zipIdx 0).map fun x => (x.2, x.1) := by
  rw [List.zipIdx_map, List.map_map]
  simp [List.map_map]
 have hr := run_buildSlice (P := P) w ty e n (((ys.zipIdx 0).map fun x => (x.2, x.1)).toArray.map fun (i, x) => (i, ev x)) (xs.flatMap E).toArray i z ht hi hz (by rw [hs]; exact hsmall) (by rw [hs]; intro h0; rcases Nat.mul_eq_zero.1 h0 with h0 | h0 <;> omega) (by rw [hs, hp]; exact hf)
 unfold execOp
 simp only [ho, Sem.run_bind, hr, Result.andThen_ok]
 rfl
variable {Q : Exit → Act → World → Prop} {ops : Array Oper}
end
end Go.Proofs.YtbecajihgbbgjaaDoor.K

namespace Go.Proofs.YtbecajihgbbgjaaDoor.K
set_option maxRecDepth 8000
open Go.RowKit
/-- a step of an iterator: nothing below N changes, no cells change -/
structure Abide (N : Nat) (A B : World) : Prop where
 below : Below N A B
 cells : ∀ (b : Nat) (o : Obj), A.heap[b]? = some o → o.isCells = true → B.heap[b]? = some o
theorem Abide.refl (N : Nat) (A : World) : Abide N A A := ⟨Below.refl _ _, fun _ _ h _ => h⟩
theorem Abide.trans {N : Nat} {A B C : World} (h : Abide N A B) (k : Abide N B C) : Abide N A C := ⟨h.below.trans k.below, fun b o ho hc => k.cells b o (h.cells b o ho hc) hc⟩
theorem Abide.mono {N M : Nat} {A B : World} (h : Abide N A B) (hM : M ≤ N) : Abide M A B := ⟨h.below.mono hM, h.cells⟩
theorem Abide.of_below {N : Nat} {A B : World} (h : Below A.heap.size A B) (hN : N ≤ A.heap.size) : Abide N A B := ⟨h.mono hN, fun _ _ ho _ => heap_keep ho h⟩
theorem Abide.cell {N : Nat} {A B : World} (h : Abide N A B) {p : Addr} {v : Value} (hc : A.cell? p = some v) : B.cell? p = some v := by
 have hlt := World.block_lt_of_cell? _ _ hc
 have ho := Array.getElem?_eq_getElem hlt
 have hcell : (A.heap[p.block]'hlt).isCells = true := by
  have := hc
  unfold World.cell? at this
  rw [ho] at this
  cases hh : A.heap[p.block]'hlt <;> rw [hh] at this <;> first | rfl | (simp at this)
 exact (World.cell?_of_block ((h.cells _ _ ho hcell).trans ho.symm)).trans hc
/-- what a round keeps for the iterator: whatever lies at or beyond N, but for cells -/
structure KeepI (N : Nat) (A B : World) : Prop where
 size : A.heap.size ≤ B.heap.size
 same : ∀ (b : Nat) (o : Obj), N ≤ b → A.heap[b]? = some o → Obj.isCells o = false → B.heap[b]? = some o
theorem KeepI.refl (N : Nat) (A : World) : KeepI N A A := ⟨Nat.le_refl _, fun _ _ _ h _ => h⟩
theorem KeepI.trans {N : Nat} {A B C : World} (h : KeepI N A B) (k : KeepI N B C) : KeepI N A C := ⟨Nat.le_trans h.size k.size, fun b o hb ho hd => k.same b o hb (h.same b o hb ho hd) hd⟩
theorem KeepI.mono {N M : Nat} {A B : World} (h : KeepI N A B) (hM : N ≤ M) : KeepI M A B := ⟨h.size, fun b o hb => h.same b o (by omega)⟩
theorem KeepI.of_below {N : Nat} {A B : World} (h : Below A.heap.size A B) : KeepI N A B := ⟨h.size, fun _ _ _ ho _ => heap_keep ho h⟩
theorem KeepI.setCell {N : Nat} {A : World} (p : Addr) (v : Value) (hp : p.block < N) : KeepI N A (A.setCell p v) :=
 ⟨by simp [World.setCell], fun b o hb ho _ => (Below.heap_setCell A p v b (by omega)).trans ho⟩
theorem KeepI.setRow {N x : Nat} {A : World} (cs : Array Value) (hx : x < N) : KeepI N A (A.setRow x cs) :=
 ⟨by simp [World.setRow], fun b o hb ho _ => by
  have : x ≠ b := by omega
  simp [World.setRow, Array.getElem?_modify, this]
  exact ho⟩
theorem KeepI.cell {N : Nat} {A B : World} (h : KeepI N A B) {p : Addr} {v : Value} (hp : N ≤ p.block) (hc : A.cell? p = some v) (hd : ∀ o, A.heap[p.block]? = some o → Obj.isCells o = false) : B.cell? p = some v := by
 have hlt := World.block_lt_of_cell? _ _ hc
 have ho := Array.getElem?_eq_getElem hlt
 exact (World.cell?_of_block ((h.same _ _ hp ho (hd _ ho)).trans ho.symm)).trans hc
/-- nothing but cells changes -/
structure Kin (A B : World) : Prop where
 size : A.heap.size ≤ B.heap.size
 same : ∀ (b : Nat) (o : Obj), A.heap[b]? = some o → o.isCells = false → B.heap[b]? = some o
theorem Kin.refl (A : World) : Kin A A := ⟨Nat.le_refl _, fun _ _ h _ => h⟩
theorem Kin.trans {A B C : World} (h : Kin A B) (k : Kin B C) : Kin A C := ⟨Nat.le_trans h.size k.size, fun b o ho hd => k.same b o (h.same b o ho hd) hd⟩
theorem Kin.of_below {A B : World} (h : Below A.heap.size A B) : Kin A B := ⟨h.size, fun _ _ ho _ => heap_keep ho h⟩
theorem Kin.keep {A B : World} (h : Kin A B) (N : Nat) : KeepI N A B := ⟨h.size, fun b o _ ho hd => h.same b o ho hd⟩
theorem Kin.far {A B : World} {g : Nat} {o : Obj} (hg : A.heap[g]? = some o) (hc : o.isCells = true) (hs : A.heap.size ≤ B.heap.size) (hfar : ∀ k o, k ≠ g → A.heap[k]? = some o → B.heap[k]? = some o) : Kin A B :=
 ⟨hs, fun b q hq hd => hfar b q (fun e => by subst e; rw [hg] at hq; injection hq with hq; subst hq; rw [hc] at hd; cases hd) hq⟩
theorem Kin.grown {A B : World} {base : Nat} {e : TypeId} {size n : Nat} {v : Value} {cs : List Value} (h : A.ownsRow base e size v n cs) (hg : A.grownBy B v.ownBlock) : Kin A B :=
 ⟨hg.size, fun b q hq hd => (hg.block b (Array.getElem?_eq_some_iff.1 hq).1 (fun he => by
  rcases h.2 with ⟨rfl, _⟩ | ⟨g, cap, cur, rfl, hb, hgg, _⟩
  ·cases he
  ·simp only [Value.ownBlock] at he
   injection he with he
   subst he
   rw [hgg] at hq
   injection hq with hq
   subst hq
   cases hd)).trans hq⟩
section
variable {P : Program} {Q : Exit → Act → World → Prop} {ops : Array Oper} {w : World} {n : Nat} {ty : TypeId} {x y : Operand}
end
theorem hOp_callA {P : Program} {o : Oper} {a : Act} {w : World} {K : Value → World → Prop} {fn : Func} (f : FuncId) (hf : P.funcs[f]? = some fn) (hname : (fn.name == "runtime.NumGoroutine") = false) (hb : fn.body.isNone = false) (x : Tmp) (xs : Array Operand) (lb : Array Value) (ts : Array TypeId) (ho : o.op = .call { callee := .value (.tmp x), args := xs, argTypes := ts })
  (hx : a.eval (.tmp x) = .func (.func f) #[] lb) (args : Array Value) (hargs : xs.map a.eval = args) (h : Calls P f (args ++ lb) w fun e w' => ∃ v, e = .returned v ∧ K v w') : hOp P o K a w := by
 unfold hOp execOp
 simp only [ho]
 have e : (do let d ← resolve a.eval { callee := .value (.tmp x), args := xs, argTypes := ts } o.type; invoke d.target d.args : Sem Next).run P w = .ok (.enter f (args ++ lb)) w := by
  have h1 : fn.name ≠ "runtime.NumGoroutine" := by simpa using hname
  have h2 : fn.body ≠ none := by
   intro e
   rw [e] at hb
   cases hb
  have hx' : a.tmps[x]?.getD undef = .func (.func f) #[] lb := by simpa [Act.eval] using hx
  subst hargs
  simp [resolve, Deferred.ofValue, invoke, go_sem, hx', callFunc, hf, h1, h2]
 rw [e]
 exact h
section
variable {P : Program}
end
section
variable {p : Nat} {F : Nat → Value → Prop} {w0 W : World} {T : Bool → World → Prop} {m m' : Nat → Bool} {vs : Nat → Value}
end
end Go.Proofs.YtbecajihgbbgjaaDoor.K

namespace Go.Proofs.YtbecajihgbbgjaaDoor
set_option maxRecDepth 8000
open Go.RowKit Go.Proofs.YtbecajihgbbgjaaDoor.K
/-- a reading -/
structure Rd where
 who : Int
 when_ : Int
 kind : Int
 value : Int
/-- a slice's head -/
structure Hd where
 A : Option Addr
 n : Nat
 c : Nat
/-- an operation on a stream -/
structure Opn where
 b0 : Nat
 b1 : Nat
 b2 : Nat
 back : Bool
def rdC (r : Rd) : List Value := [.int .i64 r.who, .int .i64 r.when_, .int .i64 r.kind, .int .i64 r.value]
def boC (b : Bool) : List Value := [.bool b]
def wdC (n : Nat) : List Value := [.int .u64 (n : Int)]
def byC (n : Nat) : List Value := [.int .u8 (n : Int)]
def hdC (h : Hd) : List Value := [.slice h.A h.n h.c]
def opC (o : Opn) : List Value := [.int .u8 (o.b0 : Int), .int .u8 (o.b1 : Int), .int .u8 (o.b2 : Int), .bool o.back]
instance : Enc rdC 4 := ⟨fun _ => rfl, fun x u hu => by simp only [rdC, List.mem_cons, List.not_mem_nil, or_false] at hu; rcases hu with rfl | rfl | rfl | rfl <;> rfl, by omega⟩
instance : Enc boC 1 := ⟨fun _ => rfl, fun x u hu => by simp only [boC, List.mem_cons, List.not_mem_nil, or_false] at hu; subst hu; rfl, by omega⟩
instance : Enc wdC 1 := ⟨fun _ => rfl, fun x u hu => by simp only [wdC, List.mem_cons, List.not_mem_nil, or_false] at hu; subst hu; rfl, by omega⟩
instance : Enc byC 1 := ⟨fun _ => rfl, fun x u hu => by simp only [byC, List.mem_cons, List.not_mem_nil, or_false] at hu; subst hu; rfl, by omega⟩
instance : Enc hdC 1 := ⟨fun _ => rfl, fun x u hu => by simp only [hdC, List.mem_cons, List.not_mem_nil, or_false] at hu; subst hu; rfl, by omega⟩
instance : Enc opC 4 := ⟨fun _ => rfl, fun x u hu => by simp only [opC, List.mem_cons, List.not_mem_nil, or_false] at hu; rcases hu with rfl | rfl | rfl | rfl <;> rfl, by omega⟩
/-- cells of a list -/
abbrev fl {α : Type} (E : α → List Value) (xs : List α) : List Value := xs.flatMap E
def fldI (r : Rd) : Nat → Int
 | 0 => r.who
 | 1 => r.when_
 | 2 => r.kind
 | _ => r.value
def widN : Nat → Nat
 | 0 => 4
 | 2 => 4
 | _ => 8
/-- field j lies within its width -/
def fokB (r : Rd) (j : Nat) : Bool := decide (0 ≤ fldI r j ∧ fldI r j < ((2 ^ widN j : Nat) : Int))
def vR (r : Rd) : Bool := fokB r 0 && fokB r 1 && fokB r 2 && fokB r 3
theorem vR_iff {r : Rd} : vR r = true ↔ (0 ≤ r.who ∧ r.who < 16) ∧ (0 ≤ r.when_ ∧ r.when_ < 256) ∧ (0 ≤ r.kind ∧ r.kind < 16) ∧ (0 ≤ r.value ∧ r.value < 256) := by
 simp only [vR, fokB, fldI, widN, Bool.and_eq_true, decide_eq_true_eq]
 constructor
 ·rintro ⟨⟨⟨h0, h1⟩, h2⟩, h3⟩
  exact ⟨⟨h0.1, by have := h0.2; omega⟩, ⟨h1.1, by have := h1.2; omega⟩, ⟨h2.1, by have := h2.2; omega⟩, h3.1, by have := h3.2; omega⟩
 ·rintro ⟨h0, h1, h2, h3⟩
  exact ⟨⟨⟨⟨h0.1, by have := h0.2; omega⟩, h1.1, by have := h1.2; omega⟩, h2.1, by have := h2.2; omega⟩, h3.1, by have := h3.2; omega⟩
/-- the reading of three bytes -/
def decR (a b c : Nat) : Rd := ⟨((a % 16 : Nat) : Int), (b : Int), ((a / 16 : Nat) : Int), (c : Int)⟩
theorem vR_dec {a b c : Nat} (ha : a < 256) (hb : b < 256) (hc : c < 256) : vR (decR a b c) = true := by
 rw [vR_iff]
 simp only [decR]
 omega
/-- a stream: readings, and which are gone -/
def opS (most : Nat) (s : List Rd × List Bool) (o : Opn) : List Rd × List Bool :=
 if o.back then (if 0 < s.1.length then (if s.2.getD (o.b0 % s.1.length) false then s else (s.1, s.2.set (o.b0 % s.1.length) true)) else s)
 else if s.1.length < most then (s.1 ++ [decR o.b0 o.b1 o.b2], s.2 ++ [false]) else s
/-- what holds of such a stream -/
structure StO (most : Nat) (rs : List Rd) (gs : List Bool) : Prop where
 same : gs.length = rs.length
 most : rs.length ≤ most
 ok : ∀ r ∈ rs, vR r = true
theorem StO.op {most : Nat} {s : List Rd × List Bool} (h : StO most s.1 s.2) (o : Opn) (h0 : o.b0 < 256) (h1 : o.b1 < 256) (h2 : o.b2 < 256) : StO most (opS most s o).1 (opS most s o).2 := by
 unfold opS
 split
 ·split
  ·split
   ·exact h
   ·exact ⟨by simp [h.same], h.most, h.ok⟩
  ·exact h
 ·split
  ·next hl =>
   refine ⟨by simp [h.same], by simp; omega, fun r hr => ?_⟩
   rcases List.mem_append.1 hr with hr | hr
   ·exact h.ok r hr
   ·rw [List.mem_singleton] at hr
    subst hr
    exact vR_dec h0 h1 h2
  ·exact h
theorem StO.nil (most : Nat) : StO most [] [] := ⟨rfl, Nat.zero_le _, fun r hr => by cases hr⟩
end Go.Proofs.YtbecajihgbbgjaaDoor

namespace Go.Proofs.YtbecajihgbbgjaaDoor
set_option maxRecDepth 8000
open Go.RowKit Go.Proofs.YtbecajihgbbgjaaDoor.K
/-- blocks of the call's own that hold columns -/
structure RowsU (w : World) (t : TypeId) (base : Nat) (bs : List Nat) (xss : List (List Nat)) : Prop where
 len : bs.length = xss.length
 ge : ∀ b ∈ bs, base ≤ b
 nd : bs.Nodup
 row : ∀ (i b : Nat) (xs : List Nat), bs[i]? = some b → xss[i]? = some xs → RowG wdC w b t xs
section
variable {w w' : World} {t : TypeId} {base : Nat} {bs : List Nat} {xss : List (List Nat)}
theorem RowsU.keep (h : RowsU w t base bs xss) (hb : Below w.heap.size w w') : RowsU w' t base bs xss := ⟨h.len, h.ge, h.nd, fun i b xs hi hx => (h.row i b xs hi hx).keep hb⟩
theorem RowsU.far (h : RowsU w t base bs xss) {g : Nat} (hg : g ∉ bs) (hfar : ∀ k o, k ≠ g → w.heap[k]? = some o → w'.heap[k]? = some o) : RowsU w' t base bs xss :=
 ⟨h.len, h.ge, h.nd, fun i b xs hi hx => hfar b _ (fun e => hg (by rw [← e]; exact List.mem_of_getElem? hi)) (h.row i b xs hi hx)⟩
theorem RowsU.lt (h : RowsU w t base bs xss) : ∀ b ∈ bs, b < w.heap.size := fun b hb => by
 obtain ⟨i, hi, rfl⟩ := List.mem_iff_getElem.1 hb
 exact (h.row i _ _ (List.getElem?_eq_getElem hi) (List.getElem?_eq_getElem (by rw [← h.len]; exact hi))).lt
theorem RowsU.push (h : RowsU w t base bs xss) {b : Nat} {xs : List Nat} (hr : RowG wdC w b t xs) (hge : base ≤ b) (hn : b ∉ bs) : RowsU w t base (bs ++ [b]) (xss ++ [xs]) :=
 ⟨by simp [h.len], fun c hc => by rcases List.mem_append.1 hc with hc | hc; exact h.ge c hc; rw [List.mem_singleton] at hc; subst hc; exact hge,
  List.nodup_append.2 ⟨h.nd, by simp, fun a ha c hc e => by rw [List.mem_singleton] at hc; subst hc e; exact hn ha⟩, fun i c ys hi hx => by
  rw [List.getElem?_append] at hi hx
  rw [h.len] at hi
  split at hi
  ·next hlt => rw [if_pos hlt] at hx; exact h.row i c ys hi hx
  ·next hlt =>
   rw [if_neg hlt] at hx
   have h0 : i - xss.length = 0 := by have := (List.getElem?_eq_some_iff.1 hi).1; simp at this; omega
   rw [h0] at hi hx
   simp at hi hx
   subst hi hx
   exact hr⟩
theorem RowsU.nil : RowsU w t base [] [] := ⟨rfl, fun b hb => (by cases hb), List.nodup_nil, fun i b xs h => (by simp at h)⟩
theorem RowsU.store (h : RowsU w t base bs xss) {c b : Nat} {ys : List Nat} (hc : bs[c]? = some b) (hr : RowG wdC w' b t ys) (hfar : ∀ k o, k ≠ b → w.heap[k]? = some o → w'.heap[k]? = some o) : RowsU w' t base bs (xss.set c ys) :=
 ⟨by simp [h.len], h.ge, h.nd, fun i d xs hi hx => by
  by_cases e : i = c
  ·subst e
   rw [hc] at hi
   injection hi with hi
   subst hi
   rw [List.getElem?_set_self (by rw [← h.len]; exact (List.getElem?_eq_some_iff.1 hc).1)] at hx
   injection hx with hx
   subst hx
   exact hr
  ·rw [List.getElem?_set_ne (Ne.symm e)] at hx
   refine hfar d _ (fun e2 => e ?_) (h.row i d xs hi hx)
   subst e2
   obtain ⟨h1, h2⟩ := List.getElem?_eq_some_iff.1 hi
   obtain ⟨h3, h4⟩ := List.getElem?_eq_some_iff.1 hc
   exact (List.getElem_inj h.nd).1 (h2.trans h4.symm)⟩
end
/-- columns that are read -/
structure Cols (w : World) (A : Option Addr) (n c : Nat) (hs : List Hd) (xss : List (List Nat)) : Prop where
 head : Sg hdC 1 w A n c hs
 len : hs.length = xss.length
 row : ∀ (i : Nat) (h : Hd) (xs : List Nat), hs[i]? = some h → xss[i]? = some xs → Sg wdC 1 w h.A h.n h.c xs
theorem Cols.keep {w w' : World} {A : Option Addr} {n c : Nat} {hs : List Hd} {xss : List (List Nat)} (h : Cols w A n c hs xss) (hb : Below w.heap.size w w') : Cols w' A n c hs xss :=
 ⟨h.head.keep hb, h.len, fun i d xs hi hx => (h.row i d xs hi hx).keep hb⟩
theorem fl_append {α : Type} (E : α → List Value) (xs ys : List α) : fl E (xs ++ ys) = fl E xs ++ fl E ys := List.flatMap_append ..
theorem own_rowkeep {w w' : World} {base b : Nat} {e u : TypeId} {size n : Nat} {v : Value} {cs : List Value} {ds : Array Value} (h : w.ownsRow base e size v n cs) (hg : w.grownBy w' v.ownBlock) (hb : w.heap[b]? = some (.cells ds u (0, 0))) (hne : u ≠ e) : w'.heap[b]? = some (.cells ds u (0, 0)) :=
 (hg.block b (xp_lt hb) (fun he => by
  rcases h.2 with ⟨rfl, _⟩ | ⟨g, cap, cur, rfl, hbs, hgg, _⟩
  ·cases he
  ·simp only [Value.ownBlock] at he
   injection he with he
   subst he
   rw [hgg] at hb
   injection hb with hb
   injection hb with _ hb2
   exact hne hb2.symm)).trans hb
theorem own_farT {w w' : World} {base b : Nat} {e u : TypeId} {size n : Nat} {v : Value} {cs : List Value} {ds : Array Value} (h : w.ownsRow base e size v n cs) (hb : w.heap[b]? = some (.cells ds u (0, 0))) (hne : u ≠ e) (hfar : ∀ k o, k ≠ b → w.heap[k]? = some o → w'.heap[k]? = some o) : w'.ownsRow base e size v n cs := by
 refine ⟨h.1, ?_⟩
 rcases h.2 with hn | ⟨g, cap, cur, rfl, hbs, hgg, rest⟩
 ·exact .inl hn
 ·exact .inr ⟨g, cap, cur, rfl, hbs, hfar g _ (fun e2 => by
   subst e2
   rw [hgg] at hb
   injection hb with hb
   injection hb with _ hb2
   exact hne hb2.symm) hgg, rest⟩
end Go.Proofs.YtbecajihgbbgjaaDoor

namespace Go.Proofs.YtbecajihgbbgjaaDoor.K
set_option maxRecDepth 8000
open Go.RowKit
/-- orders: taken first (it only looks), alone, or one of two -/
inductive OT where
 | nil : OT
 | q (i : Nat) (t : OT) : OT
 | one (i : Nat) (t : OT) : OT
 | fork (i : Nat) (t : OT) (j : Nat) (u : OT) : OT
def OT.len : OT → Nat
 | .nil => 0
 | .q _ t => t.len + 1
 | .one _ t => t.len + 1
 | .fork _ t _ _ => t.len + 1
section
variable {P : Program} {ops : Array Oper} {S : World → Prop} {Q : Exit → Act → World → Prop}
def wpOT (P : Program) (ops : Array Oper) (S : World → Prop) (Q : Exit → Act → World → Prop) : OT → Act → World → Prop
 | .nil, a, w => Q .normal a w
 | .q i t, a, w => ∃ o, ops[i]? = some o ∧ ∃ v, YieldsIf P ops S o v a ∧ wpOT P ops S Q t (a.put o.dst v) w
 | .one i t, a, w => ∃ o, ops[i]? = some o ∧ Region.wanted o (yielded ops a.tmps) = true ∧ hOp P o (fun v w' => S w' ∧ wpOT P ops S Q t (a.put o.dst v) w') a w
 | .fork i t j u, a, w => (∃ o, ops[i]? = some o ∧ Region.wanted o (yielded ops a.tmps) = true ∧ hOp P o (fun v w' => S w' ∧ wpOT P ops S Q t (a.put o.dst v) w') a w) ∧
   (∃ o, ops[j]? = some o ∧ Region.wanted o (yielded ops a.tmps) = true ∧ hOp P o (fun v w' => S w' ∧ wpOT P ops S Q u (a.put o.dst v) w') a w)
def okT (ops : Array Oper) : OT → Array Bool → Bool
 | .nil, m => (Region.ready .any ops m).isEmpty
 | .q i t, m => Region.free .any ops m i && (Region.ready .any ops m).contains i && okT ops t (m.setIfInBounds i true)
 | .one i t, m => (Region.ready .any ops m == [i]) && okT ops t (m.setIfInBounds i true)
 | .fork i t j u, m => (Region.ready .any ops m == [i, j]) && (t.len == u.len) && okT ops t (m.setIfInBounds i true) && okT ops u (m.setIfInBounds j true)
theorem wpAnyH_of_wpOT (hs : Region.noSelect ops = true) (hQ : ∀ c a (dt : Option Tmp) v w, Q (.panic c) (Act.put a dt v) w → Q (.panic c) a w) : ∀ (t : OT) (m : Array Bool) (a : Act) (w : World), okT ops t m = true → S w → wpOT P ops S Q t a w → wpAnyH P .any ops Q S t.len m a w
 | .nil, m, a, w, ho, hS, h => wpAnyH_done (by unfold okT at ho; simpa using ho) h _
 | .q i t, m, a, w, ho, hS, h => by
  unfold okT at ho
  rw [Bool.and_eq_true, Bool.and_eq_true] at ho
  obtain ⟨o, hi, v, hy, hk⟩ := h
  exact wpAnyH_take hi hs ho.1.1 ho.1.2 (fun c a w h => hQ c a _ _ w h) hy hS (wpAnyH_of_wpOT hs hQ t _ _ w ho.2 hS hk)
 | .one i t, m, a, w, ho, hS, h => by
  unfold okT at ho
  rw [Bool.and_eq_true] at ho
  obtain ⟨o, hi, hw, hk⟩ := h
  refine wpAnyH_all (rs := [i]) (by simpa using ho.1) (by simp) ?_
  intro j hj
  obtain rfl : j = i := by simpa using hj
  exact wpOp_of_hOp hi hw (hOp_mono (fun v w' hk => ⟨hk.1, wpAnyH_of_wpOT hs hQ t _ _ w' ho.2 hk.1 hk.2⟩) hk)
 | .fork i t j u, m, a, w, ho, hS, h => by
  unfold okT at ho
  rw [Bool.and_eq_true, Bool.and_eq_true, Bool.and_eq_true] at ho
  obtain ⟨⟨⟨h1, h2⟩, h3⟩, h4⟩ := ho
  have h2 : t.len = u.len := by simpa using h2
  obtain ⟨⟨o, hi, hw, hk⟩, ⟨o2, hi2, hw2, hk2⟩⟩ := h
  refine wpAnyH_all (rs := [i, j]) (by simpa using h1) (by simp) ?_
  intro q hq
  rcases List.mem_cons.1 hq with rfl | hq
  ·exact wpOp_of_hOp hi hw (hOp_mono (fun v w' hk => ⟨hk.1, wpAnyH_of_wpOT hs hQ t _ _ w' h3 hk.1 hk.2⟩) hk)
  ·obtain rfl : q = j := by simpa using hq
   exact wpOp_of_hOp hi2 hw2 (hOp_mono (fun v w' hk => ⟨hk.1, by have := wpAnyH_of_wpOT hs hQ u _ _ w' h4 hk.1 hk.2; rw [← h2] at this; exact this⟩) hk2)
theorem wp_ordT (S : World → Prop) (t : OT) {id : Nat} {a : Act} {w : World} {l : List Oper} (hm : P.follows .mixedOrders = true) (hs : Region.noSelect l.toArray = true) (hQ : ∀ c a (dt : Option Tmp) v w, Q (.panic c) (Act.put a dt v) w → Q (.panic c) a w)
  (hn : t.len = l.length) (ho : okT l.toArray t (Array.replicate l.length false) = true) (hS : S w.drew) (h : wpOT P l.toArray S Q t a w.drew) : (Code.region id l.toArray true).wp P Q a w := by
 refine wp_region_held (S := S) hm ?_
 have := wpAnyH_of_wpOT hs hQ t _ a w.drew ho hS h
 rw [hn] at this
 simpa using this
theorem wpOT_nil {a : Act} {w : World} (h : Q .normal a w) : wpOT P ops S Q .nil a w := h
theorem wpOT_q {i : Nat} {t : OT} {o : Oper} {l : List Oper} {a : Act} {w : World} (v : Value) (hi : l[i]? = some o) (hw : Region.wanted o (yielded l.toArray a.tmps) = true) (hr : ∀ w', S w' → (execOp a.eval o).run P w' = .ok (.value v) w') (h : wpOT P l.toArray S Q t (a.put o.dst v) w) : wpOT P l.toArray S Q (.q i t) a w :=
 ⟨o, by simpa using hi, v, .inl ⟨hw, hr⟩, h⟩
theorem wpOT_one {i : Nat} {t : OT} {o : Oper} {l : List Oper} {a : Act} {w : World} (hi : l[i]? = some o) (hw : Region.wanted o (yielded l.toArray a.tmps) = true) (h : hOp P o (fun v w' => S w' ∧ wpOT P l.toArray S Q t (a.put o.dst v) w') a w) : wpOT P l.toArray S Q (.one i t) a w :=
 ⟨o, by simpa using hi, hw, h⟩
theorem wpOT_fork {i j : Nat} {t u : OT} {a : Act} {w : World} (h1 : wpOT P ops S Q (.one i t) a w) (h2 : wpOT P ops S Q (.one j u) a w) : wpOT P ops S Q (.fork i t j u) a w := ⟨h1, h2⟩
end
section
variable {P : Program}
theorem hOp_val {o : Oper} {a : Act} {w : World} {K : Value → World → Prop} (v : Value) (hr : (execOp a.eval o).run P w = .ok (.value v) w) (h : K v w) : hOp P o K a w := by
 unfold hOp
 rw [hr]
 exact h
/-- a new variable -/
theorem hOp_new {o : Oper} {a : Act} {w : World} {K : Value → World → Prop} (z : Array Value) (t : TypeId) (hr : (execOp a.eval o).run P w = .ok (.value (.pointer (some ⟨w.heap.size, 0, none⟩))) (w.alloc (.cells z t)))
  (h : ∀ b W, w.heap.size ≤ b → W.heap[b]? = some (.cells z t (0, 0)) → Below w.heap.size w W → K (.pointer (some ⟨b, 0, none⟩)) W) : hOp P o K a w := by
 unfold hOp
 rw [hr]
 exact h _ _ (Nat.le_refl _) (heap_new w _) ((Below.refl _ _).alloc (Nat.le_refl _) _)
/-- a store of a whole row -/
theorem hOp_storeW {o : Oper} {a : Act} {w : World} {K : Value → World → Prop} (g : Nat) (old row : Array Value) (t : TypeId) (hg : w.heap[g]? = some (.cells old t (0, 0))) (hr : (execOp a.eval o).run P w = .ok .skip (w.setRow g row))
  (h : ∀ W, W.heap[g]? = some (.cells row t (0, 0)) → (∀ k o, k ≠ g → w.heap[k]? = some o → W.heap[k]? = some o) → (∀ B v0, B ≤ g → Below B v0 w → Below B v0 W) → W.heap.size = w.heap.size → K undef W) : hOp P o K a w := by
 unfold hOp
 rw [hr]
 refine h _ ?_ (fun k o hk h0 => ?_) (fun B v0 hB hb => bel_setRow hb hB _) (by simp [World.setRow])
 ·simp [World.setRow, Array.getElem?_modify, hg]
 ·simp [World.setRow, Array.getElem?_modify, Ne.symm hk, h0]
end
end Go.Proofs.YtbecajihgbbgjaaDoor.K
namespace Go.Proofs.YtbecajihgbbgjaaDoor
open Go.RowKit Go.Proofs.YtbecajihgbbgjaaDoor.K
section
variable {P : Program} {ev : Operand → Value} {o : Oper} {w : World} {x y : Operand} {t : TypeId}
end
end Go.Proofs.YtbecajihgbbgjaaDoor

namespace Go.Proofs.YtbecajihgbbgjaaDoor
set_option maxRecDepth 8000
open Go.RowKit Go.Proofs.YtbecajihgbbgjaaDoor.K
attribute [local irreducible] wpList wpQuiet
theorem RowsU.grown {w w' : World} {t : TypeId} {base b0 : Nat} {bs : List Nat} {xss : List (List Nat)} {e : TypeId} {size n : Nat} {v : Value} {cs : List Value} (h : RowsU w t base bs xss) (ho : w.ownsRow b0 e size v n cs) (hg : w.grownBy w' v.ownBlock) (hne : t ≠ e) : RowsU w' t base bs xss :=
 ⟨h.len, h.ge, h.nd, fun i b xs hi hx => own_rowkeep ho hg (h.row i b xs hi hx) hne⟩
end Go.Proofs.YtbecajihgbbgjaaDoor

namespace Go.Proofs.YtbecajihgbbgjaaDoor
set_option maxRecDepth 8000
open Go.RowKit Go.Proofs.YtbecajihgbbgjaaDoor.K
attribute [local irreducible] wpList wpQuiet
/-- own slices of words, under heads -/
structure OwnsU (w : World) (t : TypeId) (base : Nat) (hs : List Hd) (xss : List (List Nat)) : Prop where
 len : hs.length = xss.length
 row : ∀ (i : Nat) (h : Hd) (xs : List Nat), hs[i]? = some h → xss[i]? = some xs → xs.length = h.n ∧ w.ownsRow base t 1 (.slice h.A h.n h.c) h.n (fl wdC xs)
theorem OwnsU.keep {w w' : World} {t : TypeId} {base : Nat} {hs : List Hd} {xss : List (List Nat)} (h : OwnsU w t base hs xss) (hb : Below w.heap.size w w') : OwnsU w' t base hs xss := ⟨h.len, fun i d xs hi hx => ⟨(h.row i d xs hi hx).1, own_keep (h.row i d xs hi hx).2 hb⟩⟩
theorem own_growT {w w' : World} {b1 b2 : Nat} {e1 e2 : TypeId} {s1 s2 n1 n2 : Nat} {v1 v2 : Value} {c1 c2 : List Value} (h : w.ownsRow b1 e1 s1 v1 n1 c1) (ho : w.ownsRow b2 e2 s2 v2 n2 c2) (hg : w.grownBy w' v2.ownBlock) (hne : e1 ≠ e2) : w'.ownsRow b1 e1 s1 v1 n1 c1 := by
 refine ⟨h.1, ?_⟩
 rcases h.2 with hn | ⟨g, cap, cur, rfl, hbs, hgg, rest⟩
 ·exact .inl hn
 ·exact .inr ⟨g, cap, cur, rfl, hbs, own_rowkeep ho hg hgg hne, rest⟩
theorem OwnsU.grown {w w' : World} {t : TypeId} {base b0 : Nat} {hs : List Hd} {xss : List (List Nat)} {e : TypeId} {size n : Nat} {v : Value} {cs : List Value} (h : OwnsU w t base hs xss) (ho : w.ownsRow b0 e size v n cs) (hg : w.grownBy w' v.ownBlock) (hne : t ≠ e) : OwnsU w' t base hs xss :=
 ⟨h.len, fun i d xs hi hx => ⟨(h.row i d xs hi hx).1, own_growT (h.row i d xs hi hx).2 ho hg hne⟩⟩
theorem OwnsU.nil {w : World} {t : TypeId} {base : Nat} : OwnsU w t base [] [] := ⟨rfl, fun i h xs hi => by simp at hi⟩
theorem OwnsU.push {w : World} {t : TypeId} {base n c : Nat} {A : Option Addr} {hs : List Hd} {xss : List (List Nat)} {xs : List Nat} (h : OwnsU w t base hs xss) (ho : w.ownsRow base t 1 (.slice A n c) n (fl wdC xs)) (hl : xs.length = n) : OwnsU w t base (hs ++ [Hd.mk A n c]) (xss ++ [xs]) :=
 ⟨by simp [h.len], fun i d ys hi hx => by
  rw [List.getElem?_append] at hi hx
  rw [h.len] at hi
  split at hi
  ·next hlt => rw [if_pos hlt] at hx; exact h.row i d ys hi hx
  ·next hlt =>
   rw [if_neg hlt] at hx
   have h0 : i - xss.length = 0 := by have := (List.getElem?_eq_some_iff.1 hi).1; simp at this; omega
   rw [h0] at hi hx
   simp at hi hx
   subst hi hx
   exact ⟨hl, ho⟩⟩
theorem OwnsU.sg {w : World} {t : TypeId} {base : Nat} {hs : List Hd} {xss : List (List Nat)} (h : OwnsU w t base hs xss) {i : Nat} {d : Hd} {xs : List Nat} (hi : hs[i]? = some d) (hx : xss[i]? = some xs) : Sg wdC 1 w d.A d.n d.c xs := Sg.ownS (h.row i d xs hi hx).2
end Go.Proofs.YtbecajihgbbgjaaDoor

namespace Go.Proofs.YtbecajihgbbgjaaDoor.K
set_option maxRecDepth 8000
open Go.RowKit
section
variable {P : Program} {ev : Operand → Value} {o : Oper} {w : World} {x y z : Operand} {ty e : TypeId}
end
section
variable {α : Type} {E : α → List Value} {k : Nat} [hE : Enc E k] {w : World} {A : Option Addr} {n c : Nat} {xs : List α}
/-- a part of a slice, not empty -/
theorem Sg.cut {p q : Nat} (h : Sg E k w A n c xs) (hpq : p < q) (hq : q ≤ n) : Sg E k w (if c = p then A else A.map (·.add (p * k))) (q - p) (c - p) ((xs.drop p).take (q - p)) := by
 have hc := h.cap
 have ht := h.top
 rw [if_neg (by omega)]
 refine ⟨by rw [List.length_take, List.length_drop, h.len]; omega, by omega, by omega, fun e => ?_, fun i x hx => ?_⟩
 ·cases A with
  | none => have := h.nil rfl; omega
  | some a => cases e
 ·rw [List.getElem?_take] at hx
  split at hx
  ·rw [List.getElem?_drop] at hx
   obtain ⟨g, off, rfl, hr⟩ := h.at_ _ _ hx
   refine ⟨g, off + p * k, by simp [Addr.add_mid], ?_⟩
   rw [Nat.add_mul, ← Nat.add_assoc] at hr
   exact hr
  ·cases hx
end
end Go.Proofs.YtbecajihgbbgjaaDoor.K
namespace Go.Proofs.YtbecajihgbbgjaaDoor
open Go.RowKit Go.Proofs.YtbecajihgbbgjaaDoor.K
theorem Cols.cut {w : World} {A : Option Addr} {n c p q : Nat} {hs : List Hd} {xss : List (List Nat)} (h : Cols w A n c hs xss) (hpq : p < q) (hq : q ≤ n) : Cols w (if c = p then A else A.map (·.add (p * 1))) (q - p) (c - p) ((hs.drop p).take (q - p)) ((xss.drop p).take (q - p)) :=
 ⟨h.head.cut hpq hq, by simp [h.len], fun i d xs hi hx => by
  rw [List.getElem?_take] at hi hx
  split at hi
  ·next hlt =>
   rw [if_pos hlt] at hx
   rw [List.getElem?_drop] at hi hx
   exact h.row _ _ _ hi hx
  ·cases hi⟩
end Go.Proofs.YtbecajihgbbgjaaDoor

namespace Go.Proofs.YtbecajihgbbgjaaDoor.K
set_option maxRecDepth 8000
open Go.RowKit
section
variable {P : Program} {Q : Exit → Act → World → Prop} {ops : Array Oper} {S : World → Prop}
theorem wpAnyH_mono {S2 : World → Prop} (hS : ∀ w, S w → S2 w) : ∀ (n : Nat) (m : Array Bool) (a : Act) (w : World), wpAnyH P .any ops Q S n m a w → wpAnyH P .any ops Q S2 n m a w
 | 0, _, _, _, h => h
 | n + 1, _, _, _, h => ⟨h.1, fun i hi => wpOp_mono (fun a' w' h' => ⟨hS _ h'.1, wpAnyH_mono hS n _ a' w' h'.2⟩) (h.2 i hi)⟩
theorem OrdOK.drop {is : List Nat} : ∀ {pre done : List Nat}, OrdOK ops done (pre ++ is) → OrdOK ops (pre.reverse ++ done) is
 | [], _, h => h
 | p :: pre, done, h => by
  have h2 := OrdOK.drop (pre := pre) (OrdOK.tail h)
  rw [List.reverse_cons, List.append_assoc]
  exact h2
/-- a new slice -/
theorem hOp_mk {o : Oper} {a : Act} {w : World} {K : Value → World → Prop} (cs : Array Value) (t : TypeId) (n c : Nat) (hr : (execOp a.eval o).run P w = .ok (.value (.slice (some ⟨w.heap.size, 0, none⟩) n c)) (w.alloc (.cells cs t)))
  (h : ∀ b W, w.heap.size ≤ b → W.heap[b]? = some (.cells cs t (0, 0)) → Below w.heap.size w W → K (.slice (some ⟨b, 0, none⟩) n c) W) : hOp P o K a w := by
 unfold hOp
 rw [hr]
 exact h _ _ (Nat.le_refl _) (heap_new w _) ((Below.refl _ _).alloc (Nat.le_refl _) _)
end
end Go.Proofs.YtbecajihgbbgjaaDoor.K

namespace Go.Proofs.YtbecajihgbbgjaaDoor.K
set_option maxRecDepth 8000
open Go.RowKit
section
variable {P : Program} {ops : Array Oper} {Q : Exit → Act → World → Prop}
def wpX (P : Program) (ops : Array Oper) (Q : Exit → Act → World → Prop) : OT → Act → World → Prop
 | .nil, a, w => Q .normal a w
 | .q i t, a, w => ∃ o, ops[i]? = some o ∧ ∃ v, YieldsIf P ops (fun W => Below w.heap.size w W) o v a ∧ wpX P ops Q t (a.put o.dst v) w
 | .one i t, a, w => ∃ o, ops[i]? = some o ∧ Region.wanted o (yielded ops a.tmps) = true ∧ hOp P o (fun v w' => Below w.heap.size w w' ∧ wpX P ops Q t (a.put o.dst v) w') a w
 | .fork i t j u, a, w => (∃ o, ops[i]? = some o ∧ Region.wanted o (yielded ops a.tmps) = true ∧ hOp P o (fun v w' => Below w.heap.size w w' ∧ wpX P ops Q t (a.put o.dst v) w') a w) ∧
   (∃ o, ops[j]? = some o ∧ Region.wanted o (yielded ops a.tmps) = true ∧ hOp P o (fun v w' => Below w.heap.size w w' ∧ wpX P ops Q u (a.put o.dst v) w') a w)
theorem wpAnyH_of_wpX (hs : Region.noSelect ops = true) (hQ : ∀ c a (dt : Option Tmp) v w, Q (.panic c) (Act.put a dt v) w → Q (.panic c) a w) : ∀ (t : OT) (m : Array Bool) (a : Act) (w : World), okT ops t m = true → wpX P ops Q t a w → wpAnyH P .any ops Q (fun W => Below w.heap.size w W) t.len m a w
 | .nil, m, a, w, ho, h => wpAnyH_done (by unfold okT at ho; simpa using ho) h _
 | .q i t, m, a, w, ho, h => by
  unfold okT at ho
  rw [Bool.and_eq_true, Bool.and_eq_true] at ho
  obtain ⟨o, hi, v, hy, hk⟩ := h
  exact wpAnyH_take hi hs ho.1.1 ho.1.2 (fun c a w h => hQ c a _ _ w h) hy (Below.refl _ _) (wpAnyH_of_wpX hs hQ t _ _ w ho.2 hk)
 | .one i t, m, a, w, ho, h => by
  unfold okT at ho
  rw [Bool.and_eq_true] at ho
  obtain ⟨o, hi, hw, hk⟩ := h
  refine wpAnyH_all (rs := [i]) (by simpa using ho.1) (by simp) ?_
  intro j hj
  obtain rfl : j = i := by simpa using hj
  exact wpOp_of_hOp hi hw (hOp_mono (fun v w' hk => ⟨hk.1, wpAnyH_mono (S := fun W => Below w'.heap.size w' W) (fun W (hW : Below w'.heap.size w' W) => hk.1.trans (hW.mono hk.1.size)) _ _ _ _ (wpAnyH_of_wpX hs hQ t _ _ w' ho.2 hk.2)⟩) hk)
 | .fork i t j u, m, a, w, ho, h => by
  unfold okT at ho
  rw [Bool.and_eq_true, Bool.and_eq_true, Bool.and_eq_true] at ho
  obtain ⟨⟨⟨h1, h2⟩, h3⟩, h4⟩ := ho
  have h2 : t.len = u.len := by simpa using h2
  obtain ⟨⟨o, hi, hw, hk⟩, ⟨o2, hi2, hw2, hk2⟩⟩ := h
  refine wpAnyH_all (rs := [i, j]) (by simpa using h1) (by simp) ?_
  intro q hq
  rcases List.mem_cons.1 hq with rfl | hq
  ·exact wpOp_of_hOp hi hw (hOp_mono (fun v w' hk => ⟨hk.1, wpAnyH_mono (S := fun W => Below w'.heap.size w' W) (fun W (hW : Below w'.heap.size w' W) => hk.1.trans (hW.mono hk.1.size)) _ _ _ _ (wpAnyH_of_wpX hs hQ t _ _ w' h3 hk.2)⟩) hk)
  ·obtain rfl : q = j := by simpa using hq
   exact wpOp_of_hOp hi2 hw2 (hOp_mono (fun v w' hk => ⟨hk.1, wpAnyH_mono (S := fun W => Below w'.heap.size w' W) (fun W (hW : Below w'.heap.size w' W) => hk.1.trans (hW.mono hk.1.size)) _ _ _ _ (by have := wpAnyH_of_wpX hs hQ u _ _ w' h4 hk.2; rw [← h2] at this; exact this)⟩) hk2)
theorem wp_ordX (t : OT) {id : Nat} {a : Act} {w : World} {l : List Oper} (hm : P.follows .mixedOrders = true) (hs : Region.noSelect l.toArray = true) (hQ : ∀ c a (dt : Option Tmp) v w, Q (.panic c) (Act.put a dt v) w → Q (.panic c) a w)
  (hn : t.len = l.length) (ho : okT l.toArray t (Array.replicate l.length false) = true) (h : ∀ V, Below w.heap.size w V → wpX P l.toArray Q t a V) : (Code.region id l.toArray true).wp P Q a w := by
 refine wp_region_held (S := fun W => Below w.drew.heap.size w.drew W) hm ?_
 have := wpAnyH_of_wpX hs hQ t _ a w.drew ho (h _ (Below.refl _ _).drew)
 rw [hn] at this
 simpa using this
theorem wpX_nil {a : Act} {w : World} (h : Q .normal a w) : wpX P ops Q .nil a w := h
theorem wpX_q {i : Nat} {t : OT} {o : Oper} {l : List Oper} {a : Act} {w : World} (v : Value) (hi : l[i]? = some o) (hw : Region.wanted o (yielded l.toArray a.tmps) = true) (hr : ∀ w', Below w.heap.size w w' → (execOp a.eval o).run P w' = .ok (.value v) w') (h : wpX P l.toArray Q t (a.put o.dst v) w) : wpX P l.toArray Q (.q i t) a w :=
 ⟨o, by simpa using hi, v, .inl ⟨hw, hr⟩, h⟩
theorem wpX_skip {i : Nat} {t : OT} {o : Oper} {l : List Oper} {a : Act} {w : World} (hi : l[i]? = some o) (hw : Region.wanted o (yielded l.toArray a.tmps) = false) (h : wpX P l.toArray Q t (a.put o.dst undef) w) : wpX P l.toArray Q (.q i t) a w :=
 ⟨o, by simpa using hi, undef, .inr ⟨hw, rfl⟩, h⟩
theorem wpX_one {i : Nat} {t : OT} {o : Oper} {l : List Oper} {a : Act} {w : World} (hi : l[i]? = some o) (hw : Region.wanted o (yielded l.toArray a.tmps) = true) (h : hOp P o (fun v w' => Below w.heap.size w w' ∧ wpX P l.toArray Q t (a.put o.dst v) w') a w) : wpX P l.toArray Q (.one i t) a w :=
 ⟨o, by simpa using hi, hw, h⟩
end
end Go.Proofs.YtbecajihgbbgjaaDoor.K

namespace Go.Proofs.YtbecajihgbbgjaaDoor.K
set_option maxRecDepth 8000
open Go.RowKit
def putL : List (Tmp × Value) → Act → Act
 | [], a => a
 | (t, v) :: l, a => putL l (a.put (some t) v)
section
variable {P : Program} {Q : Exit → Act → World → Prop}
def cutQ {α : Type} (D : α → List (Tmp × Value)) (F : α → World → Prop) (a : Act) : Exit → Act → World → Prop
 | .normal, a', w' => ∃ x, a' = putL (D x) a ∧ F x w'
 | _, _, _ => False
/-- what a region leaves is said once -/
theorem wp_cutP {α : Type} (D : α → List (Tmp × Value)) (F : α → World → Prop) {c : Code} {a : Act} {w : World} (h1 : c.wp P (cutQ D F a) a w) (h2 : ∀ x W, F x W → Q .normal (putL (D x) a) W) : c.wp P Q a w :=
 wp_mono h1 fun e a' w' h => by
  cases e with
  | normal => obtain ⟨x, rfl, hF⟩ := h; exact h2 x w' hF
  | _ => exact h.elim
variable {ops : Array Oper} {w0 : World}
end
section
variable {α : Type} {E : α → List Value} {k : Nat} [hE : Enc E k] {P : Program} {w : World} {e : TypeId}
end
end Go.Proofs.YtbecajihgbbgjaaDoor.K

namespace Go.Proofs.YtbecajihgbbgjaaDoor.K
set_option maxRecDepth 8000
open Go.RowKit
/-- the string of these bytes -/
def sB (l : List UInt8) : ByteArray := ⟨l.toArray⟩
theorem sB_of (s : ByteArray) : sB s.data.toList = s := by cases s; simp [sB]
section
variable {P : Program} {ev : Operand → Value} {o : Oper} {w : World} {x y : Operand} {ty t : TypeId}
end
end Go.Proofs.YtbecajihgbbgjaaDoor.K

namespace Qu
set_option maxRecDepth 8000
def isSp (b : UInt8) : Bool := decide (b.toNat = 32) || (decide (b.toNat = 9) || (decide (b.toNat = 13) || decide (b.toNat = 10)))
/-- a token: its class (0 end, 1 none, 2 word, 3 number, 4 dots, 5 equals) and its text -/
structure Tk where
 cls : Nat
 tx : List UInt8
 deriving DecidableEq
/-- the parser's state: the next token, its offset, the bytes that are read -/
structure St where
 tok : Tk
 off : Nat
 pos : Nat
 deriving DecidableEq
/-- a result, an error, the state behind -/
structure Rs (α : Type) where
 val : α
 err : Nat
 st : St
def nameN : Nat → List UInt8
 | 0 => [119, 104, 111]
 | 1 => [119, 104, 101, 110]
 | 2 => [107, 105, 110, 100]
 | _ => [118, 97, 108, 117, 101]
def maxN : Nat → Nat
 | 0 => 15
 | 1 => 255
 | 2 => 15
 | _ => 255
def kwN : Nat → List UInt8
 | 1 => [99, 111, 117, 110, 116]
 | 2 => [116, 111, 116, 97, 108]
 | 3 => [109, 111, 109, 101, 110, 116]
 | 4 => [103, 114, 111, 117, 112, 115]
 | 5 => [100, 105, 115, 116, 105, 110, 99, 116]
 | 6 => [115, 109, 97, 108, 108, 101, 115, 116]
 | _ => [112, 97, 105, 114, 115]
structure Cd where
 col : Nat
 lo : Nat
 hi : Nat
 deriving DecidableEq
structure Qy where
 kind : Nat
 col : Nat
 k : Nat
 fs : List (List Cd)
 deriving DecidableEq
def hasC (k : Nat) : Bool := decide (2 ≤ k) && decide (k ≤ 6)
def maxK : Nat → Nat
 | 3 => 6
 | 6 => 65536
 | _ => 0
def numF : Nat → Nat
 | 7 => 2
 | _ => 1
end Qu

