/- Several texts in one: Xo, Xp, Tsh, Tsj, Xq, Tsl0, Tsm0, Tsm, Tso0, Xr, Tsp0. -/
import Derived.Deep.MidRow
import Derived.Laws.Tables
import Derived.Great.BuildSlice
import Derived.Shelf.Abstract
import Derived.Test.YtcaoajeplinopaaDoorH01
import Derived.Test.YtcaoajeplinopaaDoorH07
import Derived.Test.YtcaoajeplinopaaDoorH14
import Derived.Laws.AppendOwn
import Derived.ArgAppend
namespace Go.Proofs.YtcaoajeplinopaaDoor
set_option linter.unusedVariables false
set_option linter.unusedSimpArgs false
set_option maxRecDepth 8000
open Go.RowKit
section
variable {P : Program} {ev : Operand → Value} {o : Oper} {w : World} {ty t : TypeId} {x y z : Operand}
theorem wrapI {z : Int} (h1 : -9223372036854775808 ≤ z) (h2 : z < 9223372036854775808) : IntKind.i64.wrap z = z := by rw [IntKind.wrap_i64]; omega
theorem wrapU {z : Int} (h1 : 0 ≤ z) (h2 : z < 18446744073709551616) : IntKind.u64.wrap z = z := by rw [IntKind.wrap_u64]; omega
theorem xo_arith (b : BinOp) (k : IntKind) (u v r : Int) (hr : (Op.intArith b k u v).run P w = .ok (.int k r) w) (hb : b = .add ∨ b = .sub ∨ b = .mul) (ho : o.op = .binOp b ty x y t) (hx : ev x = .int k u) (hy : ev y = .int k v) :
    (execOp ev o).run P w = .ok (.value (.int k r)) w := by
  unfold execOp
  rcases hb with rfl | rfl | rfl <;> simp [ho, hx, hy, eqGuard, binOp, Sem.run_bind, hr]
theorem xo_add (k : IntKind) (u v r : Int) (h : k.wrap (u + v) = r) (ho : o.op = .binOp .add ty x y t) (hx : ev x = .int k u) (hy : ev y = .int k v) : (execOp ev o).run P w = .ok (.value (.int k r)) w :=
  xo_arith .add k u v r (by rw [← h]; rfl) (.inl rfl) ho hx hy
theorem xo_sub (k : IntKind) (u v r : Int) (h : k.wrap (u - v) = r) (ho : o.op = .binOp .sub ty x y t) (hx : ev x = .int k u) (hy : ev y = .int k v) : (execOp ev o).run P w = .ok (.value (.int k r)) w :=
  xo_arith .sub k u v r (by rw [← h]; rfl) (.inr (.inl rfl)) ho hx hy
theorem xo_mul (k : IntKind) (u v r : Int) (h : k.wrap (u * v) = r) (ho : o.op = .binOp .mul ty x y t) (hx : ev x = .int k u) (hy : ev y = .int k v) : (execOp ev o).run P w = .ok (.value (.int k r)) w :=
  xo_arith .mul k u v r (by rw [← h]; rfl) (.inr (.inr rfl)) ho hx hy
theorem xo_addI (u v r : Int) (h : u + v = r) (h1 : -9223372036854775808 ≤ r) (h2 : r < 9223372036854775808) (ho : o.op = .binOp .add ty x y t) (hx : ev x = .int .i64 u) (hy : ev y = .int .i64 v) : (execOp ev o).run P w = .ok (.value (.int .i64 r)) w :=
  xo_add _ u v r (by rw [h, wrapI h1 h2]) ho hx hy
theorem xo_subI (u v r : Int) (h : u - v = r) (h1 : -9223372036854775808 ≤ r) (h2 : r < 9223372036854775808) (ho : o.op = .binOp .sub ty x y t) (hx : ev x = .int .i64 u) (hy : ev y = .int .i64 v) : (execOp ev o).run P w = .ok (.value (.int .i64 r)) w :=
  xo_sub _ u v r (by rw [h, wrapI h1 h2]) ho hx hy
theorem xo_mulI (u v r : Int) (h : u * v = r) (h1 : -9223372036854775808 ≤ r) (h2 : r < 9223372036854775808) (ho : o.op = .binOp .mul ty x y t) (hx : ev x = .int .i64 u) (hy : ev y = .int .i64 v) : (execOp ev o).run P w = .ok (.value (.int .i64 r)) w :=
  xo_mul _ u v r (by rw [h, wrapI h1 h2]) ho hx hy
theorem xo_addU (u v r : Nat) (h : (u + v) % 18446744073709551616 = r) (ho : o.op = .binOp .add ty x y t) (hx : ev x = .int .u64 (u : Int)) (hy : ev y = .int .u64 (v : Int)) : (execOp ev o).run P w = .ok (.value (.int .u64 (r : Int))) w :=
  xo_add _ (u : Int) (v : Int) (r : Int) (by rw [IntKind.wrap_u64]; omega) ho hx hy
theorem xo_div (b : BinOp) (k : IntKind) (u v r : Int) (hv : v ≠ 0) (hb : (b = .quo ∧ k.wrap (u.tdiv v) = r) ∨ (b = .rem ∧ u.tmod v = r)) (ho : o.op = .binOp b ty x y t) (hx : ev x = .int k u) (hy : ev y = .int k v) :
    (execOp ev o).run P w = .ok (.value (.int k r)) w := by
  unfold execOp
  rcases hb with ⟨rfl, rfl⟩ | ⟨rfl, rfl⟩ <;> simp [ho, hx, hy, eqGuard, binOp, Sem.run_bind, Op.intDiv, hv]
theorem xo_remN (k : IntKind) (u v r : Nat) (hv : 1 ≤ v) (h : u % v = r) (ho : o.op = .binOp .rem ty x y t) (hx : ev x = .int k (u : Int)) (hy : ev y = .int k (v : Int)) : (execOp ev o).run P w = .ok (.value (.int k (r : Int))) w :=
  xo_div .rem k (u : Int) (v : Int) (r : Int) (by omega) (.inr ⟨rfl, by rw [Int.tmod_eq_emod_of_nonneg (by omega), ← h]; simp⟩) ho hx hy
theorem xo_quoU (u v r : Nat) (hv : 1 ≤ v) (h : u / v = r) (hu : u < 18446744073709551616) (ho : o.op = .binOp .quo ty x y t) (hx : ev x = .int .u64 (u : Int)) (hy : ev y = .int .u64 (v : Int)) : (execOp ev o).run P w = .ok (.value (.int .u64 (r : Int))) w :=
  xo_div .quo _ (u : Int) (v : Int) (r : Int) (by omega) (.inl ⟨rfl, by
    have h3 : u / v ≤ u := Nat.div_le_self _ _
    rw [Int.tdiv_eq_ediv_of_nonneg (by omega), ← Int.natCast_ediv, h, wrapU (by omega) (by omega)]⟩) ho hx hy
theorem xo_shrN (k kk : IntKind) (u n r : Nat) (hn : n < k.bits) (h : u / 2 ^ n = r) (ho : o.op = .binOp .shr ty x y t) (hx : ev x = .int k (u : Int)) (hy : ev y = .int kk (n : Int)) : (execOp ev o).run P w = .ok (.value (.int k (r : Int))) w := by
  have e : (u : Int).fdiv (2 ^ n) = ((u / 2 ^ n : Nat) : Int) := by
    rw [Int.fdiv_eq_ediv_of_nonneg _ (by exact Int.le_of_lt (Int.pow_pos (by decide)))]
    simp
  have hm : min (n : Int).toNat k.bits = n := by rw [Int.toNat_natCast]; omega
  have hs : (Op.shift .shr k (u : Int) kk (n : Int)).run P w = .ok (.int k (r : Int)) w := by
    unfold Op.shift
    rw [if_neg (by omega), hm]
    show (Pure.pure (Value.int k ((u : Int).fdiv (2 ^ n))) : Sem Value).run P w = _
    rw [e, h]
    rfl
  unfold execOp
  simp [ho, hx, hy, eqGuard, binOp, Sem.run_bind, hs]
theorem xo_cmp (b : BinOp) (k : IntKind) (u v : Int) (r : Bool) (hr : (b = .eql ∧ (u == v) = r) ∨ (b = .neq ∧ (u != v) = r) ∨ (b = .lss ∧ decide (u < v) = r) ∨ (b = .leq ∧ decide (u ≤ v) = r) ∨ (b = .gtr ∧ decide (u > v) = r) ∨ (b = .geq ∧ decide (u ≥ v) = r))
    (ho : o.op = .binOp b ty x y t) (hx : ev x = .int k u) (hy : ev y = .int k v) : (execOp ev o).run P w = .ok (.value (.bool r)) w := by
  unfold execOp
  rcases hr with ⟨rfl, rfl⟩ | ⟨rfl, rfl⟩ | ⟨rfl, rfl⟩ | ⟨rfl, rfl⟩ | ⟨rfl, rfl⟩ | ⟨rfl, rfl⟩ <;> simp [ho, hx, hy, eqGuard, binOp, Sem.run_bind, Op.intCmp]
theorem xo_eqlT (k : IntKind) (u v : Int) (h : u = v) (ho : o.op = .binOp .eql ty x y t) (hx : ev x = .int k u) (hy : ev y = .int k v) : (execOp ev o).run P w = .ok (.value (.bool true)) w := xo_cmp _ k u v _ (.inl ⟨rfl, by simp [h]⟩) ho hx hy
theorem xo_eqlF (k : IntKind) (u v : Int) (h : u ≠ v) (ho : o.op = .binOp .eql ty x y t) (hx : ev x = .int k u) (hy : ev y = .int k v) : (execOp ev o).run P w = .ok (.value (.bool false)) w := xo_cmp _ k u v _ (.inl ⟨rfl, by simp [h]⟩) ho hx hy
theorem xo_neqF (k : IntKind) (u v : Int) (h : u = v) (ho : o.op = .binOp .neq ty x y t) (hx : ev x = .int k u) (hy : ev y = .int k v) : (execOp ev o).run P w = .ok (.value (.bool false)) w := xo_cmp _ k u v _ (.inr (.inl ⟨rfl, by simp [h]⟩)) ho hx hy
theorem xo_lssT (k : IntKind) (u v : Int) (h : u < v) (ho : o.op = .binOp .lss ty x y t) (hx : ev x = .int k u) (hy : ev y = .int k v) : (execOp ev o).run P w = .ok (.value (.bool true)) w := xo_cmp _ k u v _ (.inr (.inr (.inl ⟨rfl, decide_eq_true h⟩))) ho hx hy
theorem xo_lssF (k : IntKind) (u v : Int) (h : ¬ u < v) (ho : o.op = .binOp .lss ty x y t) (hx : ev x = .int k u) (hy : ev y = .int k v) : (execOp ev o).run P w = .ok (.value (.bool false)) w := xo_cmp _ k u v _ (.inr (.inr (.inl ⟨rfl, decide_eq_false h⟩))) ho hx hy
theorem xo_leqF (k : IntKind) (u v : Int) (h : ¬ u ≤ v) (ho : o.op = .binOp .leq ty x y t) (hx : ev x = .int k u) (hy : ev y = .int k v) : (execOp ev o).run P w = .ok (.value (.bool false)) w := xo_cmp _ k u v _ (.inr (.inr (.inr (.inl ⟨rfl, decide_eq_false h⟩)))) ho hx hy
theorem xo_gtrT (k : IntKind) (u v : Int) (h : u > v) (ho : o.op = .binOp .gtr ty x y t) (hx : ev x = .int k u) (hy : ev y = .int k v) : (execOp ev o).run P w = .ok (.value (.bool true)) w := xo_cmp _ k u v _ (.inr (.inr (.inr (.inr (.inl ⟨rfl, decide_eq_true h⟩))))) ho hx hy
theorem xo_gtrF (k : IntKind) (u v : Int) (h : ¬ u > v) (ho : o.op = .binOp .gtr ty x y t) (hx : ev x = .int k u) (hy : ev y = .int k v) : (execOp ev o).run P w = .ok (.value (.bool false)) w := xo_cmp _ k u v _ (.inr (.inr (.inr (.inr (.inl ⟨rfl, decide_eq_false h⟩))))) ho hx hy
theorem xo_cvt {src dst : TypeId} (k1 k : IntKind) (u r : Int) (h : k.wrap u = r) (hu : P.underlying dst = some (.int k)) (hs : P.underlying src = some (.int k1)) (ho : o.op = .convert src dst x) (hx : ev x = .int k1 u) : (execOp ev o).run P w = .ok (.value (.int k r)) w := by
  unfold execOp
  simp only [ho, hx, convert, Sem.run_bind]
  rw [run_underlying hs, Result.andThen_ok, run_underlying hu, Result.andThen_ok]
  simp only [Conv.intToInt, h]
  rfl
theorem xo_min {ts : Array TypeId} (k : IntKind) (u v r : Int) (h : (if v < u then v else u) = r) (ho : o.op = .call { callee := .builtin .min, args := #[x, y], argTypes := ts }) (hx : ev x = .int k u) (hy : ev y = .int k v) : (execOp ev o).run P w = .ok (.value (.int k r)) w := by
  unfold execOp
  simp [ho, resolve, invoke, builtin, Builtin.min_, Builtin.min2, Sem.run_bind, hx, hy, h]
theorem xo_max {ts : Array TypeId} (k : IntKind) (u v r : Int) (h : (if v > u then v else u) = r) (ho : o.op = .call { callee := .builtin .max, args := #[x, y], argTypes := ts }) (hx : ev x = .int k u) (hy : ev y = .int k v) : (execOp ev o).run P w = .ok (.value (.int k r)) w := by
  unfold execOp
  subst h
  simp [ho, resolve, invoke, builtin, Builtin.max_, Builtin.max2, Sem.run_bind, hx, hy]
theorem xo_len {e : TypeId} (A : Option Addr) (n c : Nat) (hu : P.underlying ty = some (.slice e)) (ho : o.op = .call { callee := .builtin .len, args := #[x], argTypes := #[ty] }) (hx : ev x = .slice A n c) : (execOp ev o).run P w = .ok (.value (.int .i64 (n : Int))) w := by
  unfold execOp
  simp only [ho, resolve, invoke, builtin, Builtin.len_, Sem.run_bind, Sem.run_pure, Result.andThen_ok, List.map_toArray, List.map_cons, List.map_nil, hx, List.getElem?_toArray, List.getElem?_cons_zero]
  rw [run_underlying hu, Result.andThen_ok]
  rfl
theorem xo_field (i g off : Nat) (fs : Array Field) (f : Field) (inf : TypeInfo) (hu : P.underlying ty = some (.struct fs)) (hf : fs[i]? = some f) (hi : P.info? f.type = some inf) (hs : inf.size ≠ 0) (ho : o.op = .fieldAddr ty x i) (hx : ev x = .pointer (some ⟨g, off, none⟩)) :
    (execOp ev o).run P w = .ok (.value (.pointer (some ⟨g, off + f.offset, none⟩))) w := by
  have hz : (sizeOf f.type).run P w = .ok inf.size w := by simp [sizeOf, typeInfo, Sem.run_bind, hi]
  unfold execOp
  simp only [ho, hx, Instr.fieldAt, Sem.run_bind]
  rw [run_underlying hu, Result.andThen_ok]
  simp only [hf, Sem.run_bind, Instr.sureAddr, Sem.run_pure, Result.andThen_ok, fieldPlace]
  rw [hz, Result.andThen_ok, if_neg hs]
  simp [Addr.add_mid]
/-- the field's place, as the program lays it out -/
def fldOK (P : Program) (ty : TypeId) (i j : Nat) : Bool :=
  match P.underlying ty with
  | some (.struct fs) => (match fs[i]? with
    | some f => f.offset == j && (match P.info? f.type with
      | some inf => inf.size != 0
      | none => false)
    | none => false)
  | _ => false
theorem xo_fld (i g off j : Nat) (h : fldOK P ty i j = true) (ho : o.op = .fieldAddr ty x i) (hx : ev x = .pointer (some ⟨g, off, none⟩)) : (execOp ev o).run P w = .ok (.value (.pointer (some ⟨g, off + j, none⟩))) w := by
  unfold fldOK at h
  split at h
  · rename_i fs hu
    split at h
    · rename_i f hf
      simp only [Bool.and_eq_true, beq_iff_eq] at h
      obtain ⟨rfl, h⟩ := h
      split at h
      · rename_i inf hi
        exact xo_field i g off fs f inf hu hf hi (by simpa using h) ho hx
      · cases h
    · cases h
  · cases h
theorem xo_fld0 (i g j : Nat) (h : fldOK P ty i j = true) (ho : o.op = .fieldAddr ty x i) (hx : ev x = .pointer (some ⟨g, 0, none⟩)) : (execOp ev o).run P w = .ok (.value (.pointer (some ⟨g, j, none⟩))) w := by
  have := xo_fld (w := w) i g 0 j h ho hx
  rw [Nat.zero_add] at this
  exact this
theorem xo_index {e : TypeId} (k : IntKind) (ad : Addr) (n c i s : Nat) (hi : i < n) (hu : P.underlying ty = some (.slice e)) (hs : (P.info? e).map (·.size) = some s) (ho : o.op = .indexAddr ty x y) (hx : ev x = .slice (some ad) n c) (hy : ev y = .int k (i : Int)) :
    (execOp ev o).run P w = .ok (.value (.pointer (some (ad.add (i * s))))) w := by
  cases hq : P.info? e with
  | none => simp [hq] at hs
  | some inf =>
    have hz : (sizeOf e).run P w = .ok s w := by simp [sizeOf, typeInfo, Sem.run_bind, hq]; simpa [hq] using hs
    unfold execOp
    simp only [ho, hx, hy, Instr.indexAt, asIntOf, Sem.run_bind, Sem.run_pure, Result.andThen_ok]
    rw [run_underlying hu, Result.andThen_ok]
    simp only [Sem.run_bind, Sem.run_pure, Result.andThen_ok]
    rw [run_underlying hu, Result.andThen_ok]
    simp only [Sem.run_bind, Sem.run_pure, Result.andThen_ok]
    rw [if_pos (by omega), Sem.run_bind, hz]
    simp
theorem xo_index1 {e : TypeId} (k : IntKind) (ad : Addr) (n c i : Nat) (hi : i < n) (hu : P.underlying ty = some (.slice e)) (hs : (P.info? e).map (·.size) = some 1) (ho : o.op = .indexAddr ty x y) (hx : ev x = .slice (some ad) n c) (hy : ev y = .int k (i : Int)) :
    (execOp ev o).run P w = .ok (.value (.pointer (some (ad.add i)))) w := by
  have h := xo_index (w := w) k ad n c i 1 hi hu hs ho hx hy
  rw [Nat.mul_one] at h
  exact h
theorem xo_load1 {d : TypeDesc} (a : Addr) (v : Value) (hc : w.cell? a = some v) (hu : P.underlying ty = some d) (hd : (match d with | .struct _ | .array _ _ => true | _ => false) = false) (ho : o.op = .load ty x) (hx : ev x = .pointer (some a)) : (execOp ev o).run P w = .ok (.value v) w := by
  unfold execOp
  simp only [ho, hx, Instr.loadAt, Instr.sureAddr, loadVar, Sem.run_bind, Sem.run_pure, Result.andThen_ok]
  rw [run_isAgg_plain hu hd]
  simp [hc]
theorem xo_loadW {d : TypeDesc} {tt : TypeId} (g : Nat) (cs : Array Value) (hc : w.heap[g]? = some (.cells cs tt (0, 0))) (hu : P.underlying ty = some d) (hd : (match d with | .struct _ | .array _ _ => true | _ => false) = true) (hi : (P.info? ty).map (·.size) = some cs.size) (ho : o.op = .load ty x) (hx : ev x = .pointer (some ⟨g, 0, none⟩)) :
    (execOp ev o).run P w = .ok (.value (.agg cs)) w := by
  unfold execOp
  simp only [ho, hx, Instr.loadAt, Instr.sureAddr, Sem.run_bind, Sem.run_pure, Result.andThen_ok]
  rw [run_loadVar_row w g tt ty cs (0, 0) d hc hu hd hi]
  rfl
theorem xo_storeW {tt : TypeId} (g : Nat) (old cs : Array Value) (hc : w.heap[g]? = some (.cells old tt (0, 0))) (hi : (P.info? ty).map (·.size) = some cs.size) (hl : old.size = cs.size) (h1 : cs.all (·.oneCell') = true) (ho : o.op = .store ty x y) (hx : ev x = .pointer (some ⟨g, 0, none⟩)) (hy : ev y = .agg cs) :
    (execOp ev o).run P w = .ok .skip (w.setRow g cs) := by
  unfold execOp
  simp only [ho, hx, hy, Instr.storeAt, Instr.sureAddr, Sem.run_bind, Sem.run_pure, Result.andThen_ok]
  rw [run_storeVar_row w g tt ty old cs hc hi hl h1]
  rfl
theorem setCell_row (w : World) (g i : Nat) (cs : Array Value) (tt : TypeId) (fr : Nat × Nat) (v : Value) (hg : w.heap[g]? = some (.cells cs tt fr)) : (w.setCell ⟨g, i, none⟩ v).heap[g]? = some (.cells (cs.setIfInBounds i v) tt fr) := heap_setCell_at hg v
theorem xo_store1 {tt : TypeId} (g i : Nat) (cs : Array Value) (u v : Value) (hg : w.heap[g]? = some (.cells cs tt (0, 0))) (hi : cs[i]? = some u) (hz : (P.info? ty).map (·.size) = some 1) (h1 : v.oneCell' = true) (ho : o.op = .store ty x y) (hx : ev x = .pointer (some ⟨g, i, none⟩)) (hy : ev y = v) :
    (execOp ev o).run P w = .ok .skip (w.setCell ⟨g, i, none⟩ v) := by
  have hc : w.cell? ⟨g, i, none⟩ = some u := by rw [cell_of_row w g i cs tt (0, 0) hg]; exact hi
  have hfz : w.frozen? ⟨g, i, none⟩ = false := by simp [World.frozen?, hg]
  have hcell : v.cells = #[v] := by cases v <;> first | rfl | simp [Value.oneCell'] at h1
  cases hq : P.info? ty with
  | none => simp [hq] at hz
  | some inf =>
    have hs : inf.size = 1 := by simpa [hq] using hz
    unfold execOp
    simp only [ho, hx, hy, Instr.storeAt, Instr.sureAddr, Sem.run_bind, Sem.run_pure, Result.andThen_ok, storeVar, sizeOf, typeInfo, run_program, hq, hs, hcell]
    have ha : (⟨g, i, none⟩ : Addr).add 0 = ⟨g, i, none⟩ := by rw [Addr.add_mid, Nat.add_zero]
    simp [storeCells, Sem.run_bind, run_store P w _ v _ h1, ha, hc, hfz]
end
end Go.Proofs.YtcaoajeplinopaaDoor

namespace Go.Proofs.YtcaoajeplinopaaDoor
set_option linter.unusedVariables false
set_option linter.unusedSimpArgs false
set_option maxRecDepth 8000
open Go.RowKit
section
variable {P : Program} {Q : Exit → Act → World → Prop} {ops : Array Oper}
theorem xp_lt {w : World} {g : Nat} {o : Obj} (h : w.heap[g]? = some o) : g < w.heap.size := (Array.getElem?_eq_some_iff.1 h).1
theorem xp_lt0 {w : World} {g : Nat} {b : Nat} {o : Obj} (h : w.heap[g]? = some o) (hb : w.heap.size ≤ b) : g ≠ b := Nat.ne_of_lt (Nat.lt_of_lt_of_le (xp_lt h) hb)
/-- a new variable, before its first store -/
theorem wpList_new {rest : List Oper} {o : Oper} {a : Act} {w : World} (z : Array Value) (t : TypeId) (hw : Region.wanted o (yielded ops a.tmps) = true) (hr : (execOp a.eval o).run P w = .ok (.value (.pointer (some ⟨w.heap.size, 0, none⟩))) (w.alloc (.cells z t)))
    (h : ∀ b W, w.heap.size ≤ b → W.heap[b]? = some (.cells z t (0, 0)) → Below w.heap.size w W → wpList P ops Q rest (a.put o.dst (.pointer (some ⟨b, 0, none⟩))) W) : wpList P ops Q (o :: rest) a w :=
  wpList_run hw _ _ hr (h _ _ (Nat.le_refl _) (heap_new w _) ((Below.refl _ _).alloc (Nat.le_refl _) _))
/-- a store of a whole row -/
theorem wpList_storeW {rest : List Oper} {o : Oper} {a : Act} {w : World} (g : Nat) (old row : Array Value) (t : TypeId) (hw : Region.wanted o (yielded ops a.tmps) = true) (hg : w.heap[g]? = some (.cells old t (0, 0))) (hr : (execOp a.eval o).run P w = .ok .skip (w.setRow g row))
    (h : ∀ W, W.heap[g]? = some (.cells row t (0, 0)) → (∀ k o, k ≠ g → w.heap[k]? = some o → W.heap[k]? = some o) → (∀ B v0, B ≤ g → Below B v0 w → Below B v0 W) → W.heap.size = w.heap.size → wpList P ops Q rest (a.put o.dst undef) W) : wpList P ops Q (o :: rest) a w := by
  refine wpList_run0 hw _ hr (h _ ?_ (fun k o hk h0 => ?_) (fun B v0 hB hb => bel_setRow hb hB _) (by simp [World.setRow]))
  · simp [World.setRow, Array.getElem?_modify, hg]
  · simp [World.setRow, Array.getElem?_modify, Ne.symm hk, h0]
/-- a store of one cell -/
theorem wpList_store1 {rest : List Oper} {o : Oper} {a : Act} {w : World} (g i : Nat) (cs : Array Value) (v : Value) (t : TypeId) (hw : Region.wanted o (yielded ops a.tmps) = true) (hg : w.heap[g]? = some (.cells cs t (0, 0))) (hr : (execOp a.eval o).run P w = .ok .skip (w.setCell ⟨g, i, none⟩ v))
    (h : ∀ W, W.heap[g]? = some (.cells (cs.setIfInBounds i v) t (0, 0)) → (∀ k o, k ≠ g → w.heap[k]? = some o → W.heap[k]? = some o) → (∀ B v0, B ≤ g → Below B v0 w → Below B v0 W) → W.heap.size = w.heap.size → wpList P ops Q rest (a.put o.dst undef) W) : wpList P ops Q (o :: rest) a w := by
  refine wpList_run0 hw _ hr (h _ (setCell_row w g i cs t (0, 0) v hg) (fun k o hk h0 => ?_) (fun B v0 hB hb => hb.setCell hB _) (by simp [World.setCell]))
  exact (Below.heap_setCell w _ _ k hk).trans h0
end
end Go.Proofs.YtcaoajeplinopaaDoor

namespace Go.Proofs.YtcaoajeplinopaaDoor
set_option linter.unusedVariables false
set_option linter.unusedSimpArgs false
set_option maxRecDepth 8000
open Go.RowKit Gold
open Go.Shelf
theorem redX_lt {l : List (Nat × Nat)} : ∀ x ∈ l.map redX, x.1 < 18446744073709551616 ∧ x.2 < 18446744073709551616 := fun x hx => by
  obtain ⟨y, _, rfl⟩ := List.mem_map.1 hx
  unfold redX
  have h1 := Nat.mod_lt y.1 (show 0 < 18446744069414584321 by decide)
  have h2 := Nat.mod_lt y.2 (show 0 < 18446744069414584321 by decide)
  constructor <;> show _ < _ <;> simp only <;> omega
theorem later_bel {w v : World} (h : ∃ x : Later w, v = x.at) : Below w.heap.size w v := by obtain ⟨x, rfl⟩ := h; exact x.below
theorem stopT_none (f : Nat → Nat) : stopT f 0 16384 = 0 := stopT_eq (Nat.zero_le _) (fun j hj => by omega) (fun _ => Nat.zero_le _)
theorem pickT_none (f : Nat → Nat) (l : Nat) : pickT f 0 l 16384 = [] := by
  have h := pickT_length (f := f) (n := 0) (L := l) (K := 16384) (Nat.zero_le _)
  exact List.eq_nil_of_length_eq_zero h
theorem lastC_small {c : Nat} (h : c < 9223372036854775808) (s : Nat) (hs : s ≤ 16384) : lastC c s = c + (s + 3) / 4 := by
  unfold lastC outsN
  omega
theorem indices_all (s : List Nat) (c : Nat) (lb : ByteArray) (l n : Nat) (hl : s.length = 32) (hsb : ∀ x ∈ s, x < 256) (hc : c < 18446744073709551616) (hlb : lb.size ≤ 200) (hL1 : 1 ≤ l) (hL : l ≤ 65536) (hn64 : n ≤ 64) (hnL : n ≤ l) (w : World) (hG : Gl w)
    (f : Nat → Nat) (hf : cdF s lb c l = f) (R : List Nat) (hR : pickT f n l 16384 = R) (c' : Nat) (hc' : lastC c (stopT f n 16384) = c') (L C : Int) (hLl : (l : Int) = L) (hCn : (n : Int) = C) :
    Calls Tryd.prog 26 #[.agg (trC s c), .string lb, .agg #[.int .i64 L, .int .i64 C]] w fun e w' => ∃ A k, e = .returned (.tuple #[.agg (trC s c'), .slice A n k]) ∧ Ib w' A n k (R.map fun x : Nat => (x : Int)) ∧ Below w.heap.size w w' := by
  by_cases h0 : n = 0
  · subst h0
    rw [stopT_none, lastC_zero hc] at hc'
    rw [pickT_none] at hR
    subst hc' hR
    refine (indices_nil s c lb L C hl (.inr (by omega)) w).mono fun e w' h => ?_
    obtain ⟨rfl, hb⟩ := h
    exact ⟨none, 0, rfl, Ib.none_ _, hb⟩
  · refine (indices_any s c lb l n hl hsb hc hlb hL1 hL (by omega) hn64 hnL w hG f hf R hR c' hc' L C hLl hCn).mono fun e w' h => ?_
    obtain ⟨v, rfl, ho, hb⟩ := h
    obtain ⟨A, k, rfl, hi⟩ := ho.ib
    exact ⟨A, k, rfl, hi, hb⟩
end Go.Proofs.YtcaoajeplinopaaDoor

namespace Go.Proofs.YtcaoajeplinopaaDoor
set_option linter.unusedVariables false
set_option linter.unusedSimpArgs false
set_option maxRecDepth 8000
open Go.RowKit Gold
open Go.Shelf
section
theorem run_eqX (a b : Int) (w : World) : (binOp .eql 36 (.agg #[.int .u64 a, .int .u64 b]) (.agg #[.int .u64 a, .int .u64 b])).run Tryd.prog w = .ok (.bool true) w := by
  go_simp
  try simp
variable {ev : Operand → Value} {o : Oper}
theorem exec_eqEx {x y : Operand} {t : TypeId} (a b : Int) (ho : o.op = .binOp .eql 36 x y t) (hx : ev x = .agg #[.int .u64 a, .int .u64 b]) (hy : ev y = .agg #[.int .u64 a, .int .u64 b]) (w : World) : (execOp ev o).run Tryd.prog w = .ok (.value (.bool true)) w := by
  unfold execOp
  simp only [ho, hx, hy, Sem.run_bind]
  rw [run_eqGuard_agg _ _ _ _ _ _ _ (by kernel_rfl), Result.andThen_ok, run_eqX a b w]
  rfl
end
theorem rvalid_yes (x : Nat) (h : x < 18446744069414584321) (w : World) : Calls Tryd.prog 33 #[.int .u64 (x : Int)] w fun e w' => e = .returned (.bool true) ∧ w' = w := by
  refine (rvalid_any (x : Int) w).mono ?_
  rintro e w' ⟨rfl, rfl⟩
  rw [decide_eq_true (by omega)]
  exact ⟨rfl, rfl⟩
end Go.Proofs.YtcaoajeplinopaaDoor

namespace Go.Proofs.YtcaoajeplinopaaDoor
set_option linter.unusedVariables false
set_option linter.unusedSimpArgs false
set_option maxRecDepth 8000
open Go.RowKit
section
variable {P : Program} {ev : Operand → Value} {o : Oper} {w : World} {ty e : TypeId} {x y : Operand}
theorem xo_take (k1 : IntKind) (A : Option Addr) (n c k : Nat) (hk : k ≤ c) (hu : P.underlying ty = some (.slice e)) (hi : (P.info? e).isSome = true) (ho : o.op = .slice ty x none (some y) none) (hx : ev x = .slice A n c) (hy : ev y = .int k1 (k : Int)) :
    (execOp ev o).run P w = .ok (.value (.slice A k c)) w := by
  obtain ⟨inf, hq⟩ := Option.isSome_iff_exists.1 hi
  have hb : (Instr.sliceBound (.int k1 (k : Int)) c .sliceAcap).run P w = .ok k w := by
    simp [Instr.sliceBound, asIntOf, Sem.run_bind, hk]
  unfold execOp
  simp only [ho, Option.map, Sem.run_bind, Instr.sliceAt, hx, hy]
  rw [run_underlying hu, Result.andThen_ok]
  simp only [Instr.slice, Sem.run_bind]
  rw [run_underlying hu, Result.andThen_ok]
  simp only [Instr.sliceBounds, Sem.run_bind, Sem.run_pure, Result.andThen_ok, Option.isSome, if_true]
  rw [hb]
  have ha : A.map (fun x => x.add 0) = A := by
    cases A with
    | none => rfl
    | some a => simp [Addr.add_zero']
  simp [sizeOf, typeInfo, Sem.run_bind, hq, ha]
theorem xo_drop (k1 : IntKind) (A : Option Addr) (n c k s : Nat) (hk : k ≤ n) (hu : P.underlying ty = some (.slice e)) (hi : (P.info? e).map (·.size) = some s) (ho : o.op = .slice ty x (some y) none none) (hx : ev x = .slice A n c) (hy : ev y = .int k1 (k : Int)) :
    (execOp ev o).run P w = .ok (.value (.slice (if c = k then A else A.map (·.add (k * s))) (n - k) (c - k))) w := by
  cases hq : P.info? e with
  | none => simp [hq] at hi
  | some inf =>
    have hs : inf.size = s := by simpa [hq] using hi
    have hb : (Instr.sliceBound (.int k1 (k : Int)) n .sliceB).run P w = .ok k w := by
      simp [Instr.sliceBound, asIntOf, Sem.run_bind, hk]
    unfold execOp
    simp only [ho, Option.map, Sem.run_bind, Instr.sliceAt, hx, hy]
    rw [run_underlying hu, Result.andThen_ok]
    simp only [Instr.slice, Sem.run_bind]
    rw [run_underlying hu, Result.andThen_ok]
    simp only [Instr.sliceBounds, Sem.run_bind, Sem.run_pure, Result.andThen_ok, Option.isSome]
    simp only [if_false, Bool.false_eq_true]
    rw [hb]
    simp [sizeOf, typeInfo, Sem.run_bind, hq, hs]
    cases A <;> rfl
end
/-- m elements of so many cells each, read behind an address (none, if there are none) -/
structure SrcC (w : World) (A : Option Addr) (m size : Nat) (cs : List Value) : Prop where
  len : cs.length = m * size
  nil : A = none → m = 0
  cell : ∀ j u, cs[j]? = some u → ∃ ad, A = some ad ∧ w.cell? (ad.add j) = some u
  one : ∀ u ∈ cs, u.oneCell' = true
theorem SrcC.keep {w w' : World} {A : Option Addr} {m size : Nat} {cs : List Value} (h : SrcC w A m size cs) (hb : Below w.heap.size w w') : SrcC w' A m size cs :=
  ⟨h.len, h.nil, fun j u hj => by obtain ⟨ad, e, hc⟩ := h.cell j u hj; exact ⟨ad, e, cell_keep hc hb⟩, h.one⟩
section
variable {P : Program} {w w' : World} {base : Nat} {e : TypeId} {size n : Nat} {v : Value} {cs : List Value}
theorem own_keep (h : w.ownsRow base e size v n cs) (hb : Below w.heap.size w w') : w'.ownsRow base e size v n cs := by
  refine ⟨h.1, ?_⟩
  rcases h.2 with hn | ⟨g, cap, cur, rfl, hbs, hgg, rest⟩
  · exact .inl hn
  · exact .inr ⟨g, cap, cur, rfl, hbs, heap_keep hgg hb, rest⟩
theorem own_form (h : w.ownsRow base e size v n cs) : ∃ A c, v = .slice A n c := by
  rcases h.2 with ⟨rfl, rfl⟩ | ⟨g, cap, cur, rfl, _⟩ <;> exact ⟨_, _, rfl⟩
theorem own_below (h : w.ownsRow base e size v n cs) (hg : w.grownBy w' v.ownBlock) (hbase : base ≤ w.heap.size) : Below base w w' :=
  ⟨hg.os, hg.tape, hg.output, hg.size, fun k hk => hg.block k (by omega) (fun he => by
    rcases h.2 with ⟨rfl, _⟩ | ⟨g, cap, cur, rfl, hbs, _⟩
    · cases he
    · simp only [Value.ownBlock] at he
      injection he with he
      omega)⟩
/-- a new empty slice -/
theorem own_new {b : Nat} (h : w.heap[b]? = some (.cells #[] e (0, 0))) (hb : base ≤ b) : w.ownsRow base e size (.slice (some ⟨b, 0, none⟩) 0 0) 0 [] :=
  ⟨by simp, .inr ⟨b, 0, #[], rfl, hb, h, Nat.le_refl _, Nat.zero_le _, by simp, by simp⟩⟩
theorem xo_empty {ev : Operand → Value} {o : Oper} {t : TypeId} (hu : P.underlying t = some (.slice e)) (hs : (P.info? e).map (·.size) = some size) (ho : o.op = .buildSlice t 0 #[]) (w : World) :
    (execOp ev o).run P w = .ok (.value (.slice (some ⟨w.heap.size, 0, none⟩) 0 0)) (w.alloc (.cells #[] e)) := by
  cases hq : P.info? e with
  | none => simp [hq] at hs
  | some inf =>
    unfold execOp
    simp only [ho, Instr.buildSlice, Sem.run_bind, List.map_toArray, List.map_nil]
    rw [run_underlying hu, Result.andThen_ok]
    have h0 : ∀ f : Nat → Value, Array.map f (Array.range 0) = #[] := fun f => by apply Array.ext' ; simp
    simp [sizeOf, typeInfo, hq, Instr.fill, newRow, Sem.run_bind, h0]
/-- two slices in different blocks -/
def ApartV (u v : Value) : Prop := ∀ k, u.ownBlock = some k → v.ownBlock ≠ some k
theorem ApartV.symm {u v : Value} (h : ApartV u v) : ApartV v u := fun k hk e => h k e hk
/-- what is grown lies elsewhere -/
theorem own_other {u : Value} (h : w.ownsRow base e size v n cs) (hg : w.grownBy w' u.ownBlock) (ha : ApartV u v) : w'.ownsRow base e size v n cs := by
  have hlt := World.ownsRow.lt h
  refine ⟨h.1, ?_⟩
  rcases h.2 with hn | ⟨g, cap, cur, rfl, hbs, hgg, rest⟩
  · exact .inl hn
  · refine .inr ⟨g, cap, cur, rfl, hbs, ?_, rest⟩
    have h1 := hlt g rfl
    exact (hg.block g h1.2 (fun e => ha g e.symm rfl)).trans hgg
theorem ApartV.grow {u u' : Value} (ha : ApartV u v) (hw : ∀ k, u'.ownBlock = some k → u.ownBlock = some k ∨ w.heap.size ≤ k) (h : w.ownsRow base e size v n cs) : ApartV u' v := fun k hk e => by
  rcases hw k hk with h1 | h1
  · exact ha k h1 e
  · have := (World.ownsRow.lt h k e).2
    omega
theorem ApartV.new {b m c : Nat} (h : w.ownsRow base e size v n cs) (hb : w.heap.size ≤ b) : ApartV v (.slice (some ⟨b, 0, none⟩) m c) := fun k hk e => by
  have := (World.ownsRow.lt h k hk).2
  simp only [Value.ownBlock] at e
  injection e with e
  omega
theorem hOp_app {o : Oper} {a : Act} {K : Value → World → Prop} (s x : Operand) (t : TypeId) (ho : o.op = .call { callee := .builtin .append, args := #[s, x], argTypes := #[t, t] })
    (z : Value) (bytes : Nat) (ht : P.underlying t = some (.slice e)) (hinf : (P.info? e).map (fun i => (i.zero, i.size, i.bytes)) = some (some z, size, bytes)) (hzs : z.cells.size = size) (hsz : 0 < size)
    (hs : a.eval s = v) (hown : w.ownsRow base e size v n cs) (A : Option Addr) (m c : Nat) (ds : List Value) (hx : a.eval x = .slice A m c) (hd : SrcC w A m size ds) (h63 : n + m ≤ maxLen) (hbytes : (n + m) * bytes ≤ 140737488355328) (hbase : base ≤ w.heap.size)
    (h : ∀ v' w', w'.ownsRow base e size v' (n + m) (cs ++ ds) → w.grownBy w' v.ownBlock → (∀ k, v'.ownBlock = some k → v.ownBlock = some k ∨ w.heap.size ≤ k) → K v' w') : hOp P o K a w := by
  obtain ⟨i, hi, hz, hsize, hby⟩ := info_parts hinf
  cases A with
  | some ad =>
    have hnews : ∀ j u, ds[j]? = some u → w.cell? (ad.add j) = some u := fun j u hj => by
      obtain ⟨ad', e, hc⟩ := hd.cell j u hj
      injection e with e
      subst e
      exact hc
    obtain ⟨v', w', hr, h2, h3, _⟩ := run_append_own (P := P) w base t o.type e i z size bytes ht hi hz hsize hby hzs hsz v n cs hown ad m c ds hd.len hnews hd.one h63 hbytes hbase
    have hw : ∀ k, v'.ownBlock = some k → v.ownBlock = some k ∨ w.heap.size ≤ k := by
      intro k hk
      rcases hown.2 with ⟨rfl, rfl⟩ | ⟨g1, cap, cur, rfl, hb1, hg1, hcap, hmax, hsz1, htake⟩
      · have hcs : cs = [] := List.eq_nil_of_length_eq_zero (by have := hown.1; omega)
        subst hcs
        obtain ⟨v2, w2, hr2, hown2, _⟩ := run_append_own (P := P) w w.heap.size t o.type e i z size bytes ht hi hz hsize hby hzs hsz (.slice none 0 0) 0 [] (World.ownsRow_nil w _ _ _) ad m c ds hd.len hnews hd.one h63 hbytes (Nat.le_refl _)
        rw [hr] at hr2
        injection hr2 with e1 e2
        subst e1 e2
        exact .inr (World.ownsRow.lt hown2 k hk).1
      · by_cases hroom : n + m ≤ cap
        · have hle : n * i.size + ds.length ≤ cap * i.size := by rw [hsize, hd.len, ← Nat.add_mul]; exact Nat.mul_le_mul_right _ hroom
          have hr2 := run_append_room_cells (P := P) w t o.type e i ht hi g1 0 n cap ad m c ds (by rw [hsize, hd.len]) hnews hd.one hroom
            (fun j hj => by
              simp [World.cell?, hg1]
              rw [hsz1, ← hsize]
              omega) (fun j hj => by simp [World.frozen?, hg1])
          rw [hr] at hr2
          injection hr2 with e1 e2
          subst e1
          exact .inl hk
        · obtain ⟨v2, w2, hr2, hown2, _⟩ := run_append_arg_grows (P := P) w t o.type e i z size bytes ht hi hz hsize hby hzs hsz ⟨g1, 0, none⟩ n cap cs hown.1
            (fun j u hj => by
              rw [Addr.add_lit, Nat.zero_add]
              rw [← htake] at hj
              have hk := (List.getElem?_eq_some_iff.1 hj).1
              rw [List.getElem?_take_of_lt (by simp at hk; omega)] at hj
              simpa [World.cell?, hg1] using hj) ad m c ds hd.len hnews (by omega) h63 hbytes
          rw [hr] at hr2
          injection hr2 with e1 e2
          subst e1 e2
          exact .inr (World.ownsRow.lt hown2 k hk).1
    unfold hOp execOp
    simp only [ho, resolve, invoke, builtin, Sem.run_bind, Sem.run_pure, Result.andThen_ok, List.map_toArray, List.map_cons, List.map_nil, hs, hx, hr]
    exact h v' w' h2 h3 hw
  | none =>
    obtain rfl := hd.nil rfl
    have hl := hd.len
    rw [Nat.zero_mul] at hl
    obtain rfl : ds = [] := List.eq_nil_of_length_eq_zero hl
    obtain ⟨A, k, rfl⟩ := own_form hown
    have hnk : n ≤ k := by
      rcases hown.2 with ⟨e1, _⟩ | ⟨g, cap, cur, e1, hb, hg, hc, hm, hs, ht⟩
      · injection e1 with e1 e2 e3; omega
      · injection e1 with e1 e2 e3; omega
    have hr : (Builtin.append_ #[t, t] o.type #[.slice A n k, .slice none 0 c]).run P w = .ok (.slice A n k) w := by
      cases A <;> simp [Builtin.append_, run_underlying ht, sizeOf, typeInfo, hi, Builtin.lenOf, Builtin.firstCells, hnk, storeCells]
    unfold hOp execOp
    simp only [ho, resolve, invoke, builtin, Sem.run_bind, Sem.run_pure, Result.andThen_ok, List.map_toArray, List.map_cons, List.map_nil, hs, hx, hr]
    exact h _ w (by simpa using hown) ⟨rfl, rfl, rfl, Nat.le_refl _, fun _ _ _ => rfl⟩ fun k hk => .inl hk
/-- a full slice grows into a new block -/
theorem hOp_appFull {o : Oper} {a : Act} {K : Value → World → Prop} (s x : Operand) (t : TypeId) (ho : o.op = .call { callee := .builtin .append, args := #[s, x], argTypes := #[t, t] })
    (z : Value) (bytes : Nat) (ht : P.underlying t = some (.slice e)) (hinf : (P.info? e).map (fun i => (i.zero, i.size, i.bytes)) = some (some z, size, bytes)) (hzs : z.cells.size = size) (hsz : 0 < size)
    (b : Addr) (hs : a.eval s = .slice (some b) n n) (hold : SrcC w (some b) n size cs) (ad : Addr) (m c : Nat) (ds : List Value) (hx : a.eval x = .slice (some ad) m c) (hd : SrcC w (some ad) m size ds) (hm : 1 ≤ m) (h63 : n + m ≤ maxLen) (hbytes : (n + m) * bytes ≤ 140737488355328)
    (h : ∀ v' w', w'.ownsRow w.heap.size e size v' (n + m) (cs ++ ds) → Below w.heap.size w w' → K v' w') : hOp P o K a w := by
  obtain ⟨i, hi, hz, hsize, hby⟩ := info_parts hinf
  have hread : ∀ {A : Addr} {k : Nat} {us : List Value}, SrcC w (some A) k size us → ∀ j u, us[j]? = some u → w.cell? (A.add j) = some u := fun hd j u hj => by
    obtain ⟨ad', e, hc⟩ := hd.cell j u hj
    injection e with e
    subst e
    exact hc
  obtain ⟨v', w', hr, h2, h3⟩ := run_append_arg_grows (P := P) w t o.type e i z size bytes ht hi hz hsize hby hzs hsz b n n cs hold.len (hread hold) ad m c ds hd.len (hread hd) (by omega) h63 hbytes
  unfold hOp execOp
  simp only [ho, resolve, invoke, builtin, Sem.run_bind, Sem.run_pure, Result.andThen_ok, List.map_toArray, List.map_cons, List.map_nil, hs, hx, hr]
  exact h v' w' h2 ⟨h3.os, h3.tape, h3.output, h3.size, fun k hk => h3.block k hk (by simp)⟩
variable {Q : Exit → Act → World → Prop} {ops : Array Oper}
theorem wpList_app {rest : List Oper} {o : Oper} {a : Act} (hw : Region.wanted o (yielded ops a.tmps) = true) (s x : Operand) (t : TypeId) (ho : o.op = .call { callee := .builtin .append, args := #[s, x], argTypes := #[t, t] })
    (z : Value) (bytes : Nat) (ht : P.underlying t = some (.slice e)) (hinf : (P.info? e).map (fun i => (i.zero, i.size, i.bytes)) = some (some z, size, bytes)) (hzs : z.cells.size = size) (hsz : 0 < size)
    (hs : a.eval s = v) (hown : w.ownsRow base e size v n cs) (A : Option Addr) (m c : Nat) (ds : List Value) (hx : a.eval x = .slice A m c) (hd : SrcC w A m size ds) (h63 : n + m ≤ maxLen) (hbytes : (n + m) * bytes ≤ 140737488355328) (hbase : base ≤ w.heap.size)
    (h : ∀ v' w', w'.ownsRow base e size v' (n + m) (cs ++ ds) → Below base w w' → wpList P ops Q rest (a.put o.dst v') w') : wpList P ops Q (o :: rest) a w :=
  wpList_op hw (hOp_app s x t ho z bytes ht hinf hzs hsz hs hown A m c ds hx hd h63 hbytes hbase fun v' w' h1 h2 _ => h v' w' h1 (own_below hown h2 hbase))
theorem wpList_app2 {rest : List Oper} {o : Oper} {a : Act} (hw : Region.wanted o (yielded ops a.tmps) = true) (s x : Operand) (t : TypeId) (ho : o.op = .call { callee := .builtin .append, args := #[s, x], argTypes := #[t, t] })
    (z : Value) (bytes : Nat) (ht : P.underlying t = some (.slice e)) (hinf : (P.info? e).map (fun i => (i.zero, i.size, i.bytes)) = some (some z, size, bytes)) (hzs : z.cells.size = size) (hsz : 0 < size)
    (hs : a.eval s = v) (hown : w.ownsRow base e size v n cs) (A : Option Addr) (m c : Nat) (ds : List Value) (hx : a.eval x = .slice A m c) (hd : SrcC w A m size ds) (h63 : n + m ≤ maxLen) (hbytes : (n + m) * bytes ≤ 140737488355328) (hbase : base ≤ w.heap.size)
    (h : ∀ v' w', w'.ownsRow base e size v' (n + m) (cs ++ ds) → Below base w w' → w.grownBy w' v.ownBlock → (∀ k, v'.ownBlock = some k → v.ownBlock = some k ∨ w.heap.size ≤ k) → wpList P ops Q rest (a.put o.dst v') w') : wpList P ops Q (o :: rest) a w :=
  wpList_op hw (hOp_app s x t ho z bytes ht hinf hzs hsz hs hown A m c ds hx hd h63 hbytes hbase fun v' w' h1 h2 h3 => h v' w' h1 (own_below hown h2 hbase) h2 h3)
theorem wpList_appFull {rest : List Oper} {o : Oper} {a : Act} (hw : Region.wanted o (yielded ops a.tmps) = true) (s x : Operand) (t : TypeId) (ho : o.op = .call { callee := .builtin .append, args := #[s, x], argTypes := #[t, t] })
    (z : Value) (bytes : Nat) (ht : P.underlying t = some (.slice e)) (hinf : (P.info? e).map (fun i => (i.zero, i.size, i.bytes)) = some (some z, size, bytes)) (hzs : z.cells.size = size) (hsz : 0 < size)
    (b : Addr) (hs : a.eval s = .slice (some b) n n) (hold : SrcC w (some b) n size cs) (ad : Addr) (m c : Nat) (ds : List Value) (hx : a.eval x = .slice (some ad) m c) (hd : SrcC w (some ad) m size ds) (hm : 1 ≤ m) (h63 : n + m ≤ maxLen) (hbytes : (n + m) * bytes ≤ 140737488355328)
    (h : ∀ v' w', w'.ownsRow w.heap.size e size v' (n + m) (cs ++ ds) → Below w.heap.size w w' → wpList P ops Q rest (a.put o.dst v') w') : wpList P ops Q (o :: rest) a w :=
  wpList_op hw (hOp_appFull s x t ho z bytes ht hinf hzs hsz b hs hold ad m c ds hx hd hm h63 hbytes h)
end
end Go.Proofs.YtcaoajeplinopaaDoor

namespace Go.Proofs.YtcaoajeplinopaaDoor
set_option linter.unusedVariables false
set_option linter.unusedSimpArgs false
set_option maxRecDepth 8000
open Go.RowKit Gold
theorem cellsX_one (xs : List (Nat × Nat)) : ∀ u ∈ cellsX xs, u.oneCell' = true := by
  intro u hu
  unfold cellsX at hu
  obtain ⟨x, _, hx⟩ := List.mem_flatMap.1 hu
  simp at hx
  rcases hx with rfl | rfl <;> rfl
theorem cellsX_get {xs : List (Nat × Nat)} {j : Nat} {u : Value} (h : (cellsX xs)[j]? = some u) : ∃ x, xs[j / 2]? = some x ∧ ((j % 2 = 0 ∧ u = .int .u64 (x.1 : Int)) ∨ (j % 2 = 1 ∧ u = .int .u64 (x.2 : Int))) := by
  have hl := (List.getElem?_eq_some_iff.1 h).1
  rw [cellsX_length] at hl
  have hx : xs[j / 2]? = some (xs[j / 2]'(by omega)) := List.getElem?_eq_getElem (by omega)
  refine ⟨_, hx, ?_⟩
  rcases Nat.mod_two_eq_zero_or_one j with h0 | h0
  · have he := cellsX_even hx
    rw [show j / 2 * 2 = j by omega, h] at he
    exact .inl ⟨h0, Option.some.inj he⟩
  · have he := cellsX_odd hx
    rw [show j / 2 * 2 + 1 = j by omega, h] at he
    exact .inr ⟨h0, Option.some.inj he⟩
theorem XbT.src {w : World} {A : Option Addr} {n c : Nat} {xs : List (Nat × Nat)} (h : XbT w A n c xs) : SrcC w A n 2 (cellsX xs) :=
  ⟨by rw [cellsX_length, h.len], fun e => by have := h.nil e; have := h.cap; omega, fun j u hj => by
    obtain ⟨x, hx, hu⟩ := cellsX_get hj
    obtain ⟨ad, e, h0, h1⟩ := h.cells (j / 2) x hx
    refine ⟨ad, e, ?_⟩
    rcases hu with ⟨hm, rfl⟩ | ⟨hm, rfl⟩
    · rw [show j / 2 * 2 = j by omega] at h0
      exact h0
    · have : ad.add j = ⟨(ad.add (j / 2 * 2)).block, (ad.add (j / 2 * 2)).off + 1, none⟩ := by
        rw [← add_succ10]
        rw [show j / 2 * 2 + 1 = j by omega]
      rw [this]
      exact h1, cellsX_one xs⟩
end Go.Proofs.YtcaoajeplinopaaDoor

namespace Go.Proofs.YtcaoajeplinopaaDoor
set_option linter.unusedVariables false
set_option linter.unusedSimpArgs false
set_option maxRecDepth 8000
open Go.RowKit Gold
theorem celB_ones (bs : List Nat) : ∀ u ∈ celB bs, u.oneCell' = true := by
  intro u hu
  unfold celB at hu
  obtain ⟨x, _, rfl⟩ := List.mem_map.1 hu
  rfl
theorem Sb.src {w : World} {A : Option Addr} {n c : Nat} {bs : List Nat} (h : Sb w A n c bs) : SrcC w A n 1 (celB bs) :=
  ⟨by rw [celB_length, h.len]; omega, fun e => by have := h.nil e; have := h.cap; omega, fun j u hj => by
    have hl := (List.getElem?_eq_some_iff.1 hj).1
    rw [celB_length] at hl
    have hlen := h.len
    obtain ⟨ad, rfl⟩ := h.some_ (by omega)
    refine ⟨ad, rfl, ?_⟩
    have h1 := h.at_ (i := j) (by omega)
    unfold celB at hj
    rw [List.getElem?_map, h.get (i := j) (by omega)] at hj
    injection hj with hj
    subst hj
    exact h1, celB_ones bs⟩
theorem own_sb {w : World} {base n : Nat} {v : Value} {bs : List Nat} (h : w.ownsRow base 5 1 v n (celB bs)) (hb : ∀ x ∈ bs, x < 256) : ∃ A c, v = .slice A n c ∧ Sb w A n c bs := OwB.sl (base := base) ⟨h, hb⟩
end Go.Proofs.YtcaoajeplinopaaDoor

namespace Go.Proofs.YtcaoajeplinopaaDoor
set_option linter.unusedVariables false
set_option linter.unusedSimpArgs false
set_option maxRecDepth 8000
open Go.RowKit Gold
open Go.Shelf
attribute [local simp] z32_ne z32_run
attribute [-simp] Tryd.zeroValue30 Tryd.isAgg30 Tryd.sizeOf30
attribute [-simp] Tryd.zeroValue32 Tryd.isAgg32 Tryd.sizeOf32
attribute [local simp] z33_ne z33_run
attribute [local irreducible] wpList wpQuiet
set_option maxHeartbeats 8000000 in
theorem rintBytes_any (A : Option Addr) (n c : Nat) (is : List Int) (w : World) (h : Ib w A n c is) (hn : n ≤ 1000000) :
    Calls Tryd.prog 29 #[.slice A n c] w fun e w' => ∃ C f, e = .returned (.slice C (8 * n) f) ∧ Sb w' C (8 * n) f (intsB (is.map u64N)) ∧ Below w.heap.size w w' := by
  have hcap := h.cap
  have htop := h.top
  have HX := Lib.hid h
  clear h
  go_enter Tryd.func29, Tryd.ntmps29
  go_upto_region 1 with fail
  refine wp_region_lit ?_
  refine wpList_mk (by kernel_rfl) #[] 5 0 0 (xo_empty (size := 1) Tryd.underlying22 (by kernel_rfl) rfl w) ?_
  intro g5 V1 hge h0 hb
  have B0 := Lib.hid hb
  have Ow5 : Hid (V1.ownsRow w.heap.size 5 1 (.slice (some ⟨g5, 0, none⟩) 0 0) 0 (celB [])) := Lib.hid (own_new h0 hge)
  clear hge h0 hb
  simp only [ptr, Act.put, List.setIfInBounds_toArray, List.set_cons_zero, List.set_cons_succ]
  refine wpList_run (by kernel_rfl) (.slice (some ⟨g5, 0, none⟩) 0 0) V1 rfl ?_
  simp only [Act.put, List.setIfInBounds_toArray, List.set_cons_zero, List.set_cons_succ]
  refine wpList_nil ?_
  have O0 := Ow5.out
  have B00 := B0.out
  go_wp2_with fail
  go_loopw [3, 4] (fun v p wr => ∃ i : Nat, i ≤ n ∧ p = .int .i64 i ∧ wr.ownsRow w.heap.size 5 1 v (8 * i) (celB (intsB ((is.map u64N).take i))) ∧ Below w.heap.size w wr) (fun _ p _ => n - (intOf p).toNat)
  case atStart => exact ⟨0, Nat.zero_le _, rfl, O0, B00⟩
  case round =>
    clear O0 B00
    obtain ⟨wo, rfl⟩ : ∃ wo : World, wo = wr := ⟨_, rfl⟩
    obtain ⟨i, hi, rfl, ho, hb⟩ := hrel
    have hbr := hb
    clear B0
    have B0 := Lib.hid hbr
    clear hbr
    clear hb
    have OW := Lib.hid ho
    clear ho
    by_cases hlt : i < n
    · have hk1 : (i : Int) < (n : Int) := by omega
      have hk0 : (0 : Int) ≤ (i : Int) := by omega
      obtain ⟨x, hx⟩ : ∃ x, is[i]? = some x := ⟨_, List.getElem?_eq_getElem (by have := HX.out.len; omega)⟩
      have HT := Lib.hid (intsB_take (l := is.map u64N) (i := i) (x := u64N x) (by rw [List.getElem?_map, hx]; rfl))
      obtain ⟨ad, eA, hc0⟩ := HX.out.cells i x hx
      subst eA
      have C0 := Lib.hid hc0
      clear hc0 hx
      go_upto_region 5 with fail
      refine wp_region_lit ?_
      refine wpList_run (by kernel_rfl) (u3) wo rfl ?_
      simp only [Act.put, List.setIfInBounds_toArray, List.set_cons_zero, List.set_cons_succ]
      refine wpList_run (by kernel_rfl) (.slice (some ad) n c) wo rfl ?_
      simp only [Act.put, List.setIfInBounds_toArray, List.set_cons_zero, List.set_cons_succ]
      refine wpList_run (by kernel_rfl) (.int .i64 (i : Int)) wo rfl ?_
      simp only [Act.put, List.setIfInBounds_toArray, List.set_cons_zero, List.set_cons_succ]
      refine wpList_run (by kernel_rfl) (.pointer (some (ad.add i))) wo (xo_index1 .i64 ad n c i (by omega) Tryd.underlying24 (by kernel_rfl) rfl rfl rfl) ?_
      simp only [Act.put, List.setIfInBounds_toArray, List.set_cons_zero, List.set_cons_succ]
      refine wpList_run (by kernel_rfl) (.int .i64 x) wo (xo_load1 (ad.add i) _ (cell_keep C0.out B0.out) Tryd.underlying2 rfl rfl rfl) ?_
      simp only [Act.put, List.setIfInBounds_toArray, List.set_cons_zero, List.set_cons_succ]
      refine wpList_run (by kernel_rfl) (.int .u64 (((u64N x) : Nat) : Int)) wo (exec_cvtU x wo rfl rfl) ?_
      simp only [Act.put, List.setIfInBounds_toArray, List.set_cons_zero, List.set_cons_succ]
      refine wpList_call (by kernel_rfl) 49 Tryd.func49 (by kernel_rfl) (by kernel_rfl) _ _ #[.int .u64 (((u64N x) : Nat) : Int)] rfl (by kernel_rfl) ?_
      refine (rword_any (u64N x) wo (by first | omega | exact u64N_lt _)).mono ?_
      rintro e V2 ⟨CJ1_1, fJ1_1, rfl, hs, hb⟩
      have B1 := Lib.hid hb
      have J1_1 := Lib.hid hs
      clear hb hs
      refine ⟨_, rfl, ?_⟩
      simp only [Act.put, List.setIfInBounds_toArray, List.set_cons_zero, List.set_cons_succ]
      have C0_2 := Lib.hid (bel_step B0.out B1.out)
      refine wpList_app (size := 1) (by kernel_rfl) (.tmp 12) (.tmp 18) 22 rfl (.int .u8 0) 1 Tryd.underlying22 (by kernel_rfl) rfl (by decide) rfl (own_keep OW.out B1.out) CJ1_1 8 fJ1_1 (celB (leN (u64N x))) rfl J1_1.out.src (by unfold maxLen; omega) (by omega) C0_2.out.size ?_
      intro v19 X2_2 ho hb1
      have hox : X2_2.ownsRow w.heap.size 5 1 v19 (8 * i + 8) (celB ((intsB ((is.map u64N).take i)) ++ (leN (u64N x)))) := by rw [celB_append]; exact ho
      have hbr := C0_2.out.trans hb1
      clear B0
      have B0 := Lib.hid hbr
      clear hbr
      have Ow19 := Lib.hid hox
      clear ho hox hb1
      simp only [ptr, Act.put, List.setIfInBounds_toArray, List.set_cons_zero, List.set_cons_succ]
      refine wpList_run (by kernel_rfl) (v19) X2_2 rfl ?_
      simp only [Act.put, List.setIfInBounds_toArray, List.set_cons_zero, List.set_cons_succ]
      refine wpList_nil ?_
      have hown : X2_2.ownsRow w.heap.size 5 1 v19 (8 * (i + 1)) (celB (intsB ((is.map u64N).take (i + 1)))) := by
        have h0 := Ow19.out
        rw [HT.out]
        exact h0
      go_wp2_with fail
      go_roundw
      case rel => exact ⟨i + 1, by omega, by go_num, hown, B0.out⟩
      case measure => simp [intOf]; omega
    · obtain rfl : i = n := by omega
      have HT := Lib.hid (show (intsB ((is.map u64N).take i)) = intsB (is.map u64N) by rw [List.take_of_length_le (by have := HX.out.len; simp; omega)])
      have ho := OW.out
      rw [HT.out] at ho
      obtain ⟨C, f, rfl, hs⟩ := own_sb ho (intsB_lt _)
      go_wp2_with fail
      go_ret
      exact ⟨C, f, rfl, hs, B0.out⟩
set_option maxHeartbeats 8000000 in
theorem rbytesX_any (A : Option Addr) (n c : Nat) (xs : List (Nat × Nat)) (w : World) (h : XbT w A n c xs) (hn : n ≤ 1000000) :
    Calls Tryd.prog 25 #[.slice A n c] w fun e w' => ∃ C f, e = .returned (.slice C (16 * n) f) ∧ Sb w' C (16 * n) f (extsN xs) ∧ Below w.heap.size w w' := by
  have hcap := h.cap
  have htop := h.top
  have HX := Lib.hid h
  clear h
  go_enter Tryd.func25, Tryd.ntmps25
  go_upto_region 1 with fail
  refine wp_region_lit ?_
  refine wpList_mk (by kernel_rfl) #[] 5 0 0 (xo_empty (size := 1) Tryd.underlying22 (by kernel_rfl) rfl w) ?_
  intro g5 V1 hge h0 hb
  have B0 := Lib.hid hb
  have Ow5 : Hid (V1.ownsRow w.heap.size 5 1 (.slice (some ⟨g5, 0, none⟩) 0 0) 0 (celB [])) := Lib.hid (own_new h0 hge)
  clear hge h0 hb
  simp only [ptr, Act.put, List.setIfInBounds_toArray, List.set_cons_zero, List.set_cons_succ]
  refine wpList_run (by kernel_rfl) (.slice (some ⟨g5, 0, none⟩) 0 0) V1 rfl ?_
  simp only [Act.put, List.setIfInBounds_toArray, List.set_cons_zero, List.set_cons_succ]
  refine wpList_nil ?_
  have O0 := Ow5.out
  have B00 := B0.out
  go_wp2_with fail
  go_loopw [3, 4] (fun v p wr => ∃ i : Nat, i ≤ n ∧ p = .int .i64 i ∧ wr.ownsRow w.heap.size 5 1 v (16 * i) (celB (extsN (xs.take i))) ∧ Below w.heap.size w wr) (fun _ p _ => n - (intOf p).toNat)
  case atStart => exact ⟨0, Nat.zero_le _, rfl, O0, B00⟩
  case round =>
    clear O0 B00
    obtain ⟨wo, rfl⟩ : ∃ wo : World, wo = wr := ⟨_, rfl⟩
    obtain ⟨i, hi, rfl, ho, hb⟩ := hrel
    have hbr := hb
    clear B0
    have B0 := Lib.hid hbr
    clear hbr
    clear hb
    have OW := Lib.hid ho
    clear ho
    by_cases hlt : i < n
    · have hk1 : (i : Int) < (n : Int) := by omega
      have hk0 : (0 : Int) ≤ (i : Int) := by omega
      obtain ⟨x, hx⟩ : ∃ x, xs[i]? = some x := ⟨_, List.getElem?_eq_getElem (by have := HX.out.len; omega)⟩
      have hxl := HX.out.lt x (List.mem_of_getElem? hx)
      have HT := Lib.hid (extsN_take hx)
      obtain ⟨ad, eA, hc0, hc1⟩ := HX.out.cells i x hx
      subst eA
      obtain ⟨x0, y0⟩ := x
      simp only at hc0 hc1 HT hxl
      have C0 := Lib.hid hc0
      have C1 := Lib.hid hc1
      clear hc0 hc1 hx
      go_upto_region 5 with fail
      refine wp_region_lit ?_
      refine wpList_run (by kernel_rfl) (u3) wo rfl ?_
      simp only [Act.put, List.setIfInBounds_toArray, List.set_cons_zero, List.set_cons_succ]
      refine wpList_run (by kernel_rfl) (.slice (some ad) n c) wo rfl ?_
      simp only [Act.put, List.setIfInBounds_toArray, List.set_cons_zero, List.set_cons_succ]
      refine wpList_run (by kernel_rfl) (.int .i64 (i : Int)) wo rfl ?_
      simp only [Act.put, List.setIfInBounds_toArray, List.set_cons_zero, List.set_cons_succ]
      refine wpList_run (by kernel_rfl) (.pointer (some (ad.add (i * 2)))) wo (exec_idxT10 ad n c i (by omega) rfl rfl rfl wo) ?_
      simp only [Act.put, List.setIfInBounds_toArray, List.set_cons_zero, List.set_cons_succ]
      refine wpList_run (by kernel_rfl) (.pointer (some (ad.add (i * 2)))) wo (exec_fA0 (ad.add (i * 2)) rfl rfl wo) ?_
      simp only [Act.put, List.setIfInBounds_toArray, List.set_cons_zero, List.set_cons_succ]
      refine wpList_run (by kernel_rfl) (.int .u64 ((x0 : Nat) : Int)) wo (xo_load1 (ad.add (i * 2)) _ (cell_keep C0.out B0.out) Tryd.underlying25 rfl rfl rfl) ?_
      simp only [Act.put, List.setIfInBounds_toArray, List.set_cons_zero, List.set_cons_succ]
      refine wpList_call (by kernel_rfl) 49 Tryd.func49 (by kernel_rfl) (by kernel_rfl) _ _ #[.int .u64 ((x0 : Nat) : Int)] rfl (by kernel_rfl) ?_
      refine (rword_any x0 wo (by first | omega | exact u64N_lt _)).mono ?_
      rintro e V2 ⟨CJ1_1, fJ1_1, rfl, hs, hb⟩
      have B1 := Lib.hid hb
      have J1_1 := Lib.hid hs
      clear hb hs
      refine ⟨_, rfl, ?_⟩
      simp only [Act.put, List.setIfInBounds_toArray, List.set_cons_zero, List.set_cons_succ]
      have C0_2 := Lib.hid (bel_step B0.out B1.out)
      refine wpList_app (size := 1) (by kernel_rfl) (.tmp 12) (.tmp 18) 22 rfl (.int .u8 0) 1 Tryd.underlying22 (by kernel_rfl) rfl (by decide) rfl (own_keep OW.out B1.out) CJ1_1 8 fJ1_1 (celB (leN x0)) rfl J1_1.out.src (by unfold maxLen; omega) (by omega) C0_2.out.size ?_
      intro v19 X2_2 ho hb1
      have hox : X2_2.ownsRow w.heap.size 5 1 v19 (16 * i + 8) (celB ((extsN (xs.take i)) ++ (leN x0))) := by rw [celB_append]; exact ho
      have hbr := C0_2.out.trans hb1
      clear B0
      have B0 := Lib.hid hbr
      clear hbr
      have Ow19 := Lib.hid hox
      clear ho hox hb1
      simp only [ptr, Act.put, List.setIfInBounds_toArray, List.set_cons_zero, List.set_cons_succ]
      refine wpList_run (by kernel_rfl) (v19) X2_2 rfl ?_
      simp only [Act.put, List.setIfInBounds_toArray, List.set_cons_zero, List.set_cons_succ]
      refine wpList_nil ?_
      go_upto_region 6 with fail
      refine wp_region_lit ?_
      refine wpList_run (by kernel_rfl) (v19) X2_2 rfl ?_
      simp only [Act.put, List.setIfInBounds_toArray, List.set_cons_zero, List.set_cons_succ]
      refine wpList_run (by kernel_rfl) (.slice (some ad) n c) X2_2 rfl ?_
      simp only [Act.put, List.setIfInBounds_toArray, List.set_cons_zero, List.set_cons_succ]
      refine wpList_run (by kernel_rfl) (.int .i64 (i : Int)) X2_2 rfl ?_
      simp only [Act.put, List.setIfInBounds_toArray, List.set_cons_zero, List.set_cons_succ]
      refine wpList_run (by kernel_rfl) (.pointer (some (ad.add (i * 2)))) X2_2 (exec_idxT10 ad n c i (by omega) rfl rfl rfl X2_2) ?_
      simp only [Act.put, List.setIfInBounds_toArray, List.set_cons_zero, List.set_cons_succ]
      refine wpList_run (by kernel_rfl) (.pointer (some ⟨(ad.add (i * 2)).block, (ad.add (i * 2)).off + 1, none⟩)) X2_2 (exec_fA1 (ad.add (i * 2)) rfl rfl X2_2) ?_
      simp only [Act.put, List.setIfInBounds_toArray, List.set_cons_zero, List.set_cons_succ]
      refine wpList_run (by kernel_rfl) (.int .u64 ((y0 : Nat) : Int)) X2_2 (xo_load1 ⟨(ad.add (i * 2)).block, (ad.add (i * 2)).off + 1, none⟩ _ (cell_keep C1.out B0.out) Tryd.underlying25 rfl rfl rfl) ?_
      simp only [Act.put, List.setIfInBounds_toArray, List.set_cons_zero, List.set_cons_succ]
      refine wpList_call (by kernel_rfl) 49 Tryd.func49 (by kernel_rfl) (by kernel_rfl) _ _ #[.int .u64 ((y0 : Nat) : Int)] rfl (by kernel_rfl) ?_
      refine (rword_any y0 X2_2 (by first | omega | exact u64N_lt _)).mono ?_
      rintro e V2 ⟨CJ1_3, fJ1_3, rfl, hs, hb⟩
      have B1 := Lib.hid hb
      have J1_3 := Lib.hid hs
      clear hb hs
      refine ⟨_, rfl, ?_⟩
      simp only [Act.put, List.setIfInBounds_toArray, List.set_cons_zero, List.set_cons_succ]
      have C0_2 := Lib.hid (bel_step B0.out B1.out)
      refine wpList_app (size := 1) (by kernel_rfl) (.tmp 20) (.tmp 26) 22 rfl (.int .u8 0) 1 Tryd.underlying22 (by kernel_rfl) rfl (by decide) rfl (own_keep Ow19.out B1.out) CJ1_3 8 fJ1_3 (celB (leN y0)) rfl J1_3.out.src (by unfold maxLen; omega) (by omega) C0_2.out.size ?_
      intro v27 X2_4 ho hb1
      have hox : X2_4.ownsRow w.heap.size 5 1 v27 (16 * i + 8 + 8) (celB ((extsN (xs.take i)) ++ (leN x0) ++ (leN y0))) := by rw [celB_append]; exact ho
      have hbr := C0_2.out.trans hb1
      clear B0
      have B0 := Lib.hid hbr
      clear hbr
      have Ow27 := Lib.hid hox
      clear ho hox hb1
      simp only [ptr, Act.put, List.setIfInBounds_toArray, List.set_cons_zero, List.set_cons_succ]
      refine wpList_run (by kernel_rfl) (v27) X2_4 rfl ?_
      simp only [Act.put, List.setIfInBounds_toArray, List.set_cons_zero, List.set_cons_succ]
      refine wpList_nil ?_
      have hown : X2_4.ownsRow w.heap.size 5 1 v27 (16 * (i + 1)) (celB (extsN (xs.take (i + 1)))) := by
        have h0 := Ow27.out
        rw [HT.out, ← List.append_assoc]
        exact h0
      go_wp2_with fail
      go_roundw
      case rel => exact ⟨i + 1, by omega, by go_num, hown, B0.out⟩
      case measure => simp [intOf]; omega
    · obtain rfl : i = n := by omega
      have HT := Lib.hid (show (extsN (xs.take i)) = extsN xs by rw [List.take_of_length_le (by have := HX.out.len; simp; omega)])
      have ho := OW.out
      rw [HT.out] at ho
      obtain ⟨C, f, rfl, hs⟩ := own_sb ho (extsN_lt _)
      go_wp2_with fail
      go_ret
      exact ⟨C, f, rfl, hs, B0.out⟩
end Go.Proofs.YtcaoajeplinopaaDoor

namespace Go.Proofs.YtcaoajeplinopaaDoor
set_option linter.unusedVariables false
set_option linter.unusedSimpArgs false
set_option maxRecDepth 8000
open Go.RowKit Gold
section
variable {ev : Operand → Value} {o : Oper}
theorem exec_fieldTr0 {x : Operand} (s : List Nat) (c : Nat) (hl : s.length = 32) (ho : o.op = .field 32 x 0) (hx : ev x = .agg (trC s c)) (w : World) : (execOp ev o).run Tryd.prog w = .ok (.value (.agg (celB s).toArray)) w := by
  have hx2 : (trC s c).extract 0 32 = (celB s).toArray := by
    unfold trC
    rw [List.extract_toArray]
    simp [List.extract, celB_length, hl]
  unfold execOp
  simp only [ho, hx, Instr.field, Sem.run_bind]
  rw [run_underlying Tryd.underlying32, Result.andThen_ok]
  simp [part, asAgg, Sem.run_bind, go_sem, hx2]
end
end Go.Proofs.YtcaoajeplinopaaDoor

namespace Go.Proofs.YtcaoajeplinopaaDoor
set_option linter.unusedVariables false
set_option linter.unusedSimpArgs false
set_option maxRecDepth 8000
open Go.RowKit
section
variable {P : Program} {Q : Exit → Act → World → Prop} {ops : Array Oper} {S : World → Prop}
theorem wpO_w {i : Nat} {is : List (Nat × Bool)} {o : Oper} {l : List Oper} {a : Act} {w : World} (v : Value) (hi : l[i]? = some o) (hw : Region.wanted o (yielded l.toArray a.tmps) = true) (hr : ∀ w', S w' → (execOp a.eval o).run P w' = .ok (.value v) w') (h : wpO P l.toArray S Q is (a.put o.dst v) w) : wpO P l.toArray S Q ((i, true) :: is) a w :=
  ⟨o, by simpa using hi, v, .inl ⟨hw, hr⟩, h⟩
end
end Go.Proofs.YtcaoajeplinopaaDoor

namespace Go.Proofs.YtcaoajeplinopaaDoor
set_option linter.unusedVariables false
set_option linter.unusedSimpArgs false
set_option maxRecDepth 8000
open Go.RowKit
attribute [local simp] z32_ne z32_run
attribute [-simp] Tryd.zeroValue30 Tryd.isAgg30 Tryd.sizeOf30
attribute [-simp] Tryd.zeroValue32 Tryd.isAgg32 Tryd.sizeOf32
attribute [local simp] z33_ne z33_run
set_option maxHeartbeats 1000000 in
theorem rbytesO_any (x : List Nat) (w : World) (hl : x.length = 32) (hb : ∀ z ∈ x, z < 256) :
    Calls Tryd.prog 34 #[.agg (celB x).toArray] w fun e w' => ∃ C f, e = .returned (.slice C 32 f) ∧ OwB w' w.heap.size (.slice C 32 f) 32 x ∧ Below w.heap.size w w' := by
  have HL := Lib.hid hl
  have HXB := Lib.hid hb
  clear hl hb
  go_enter Tryd.func34, Tryd.ntmps34
  go_wp2_with fail
  refine wp_named2 (fun w1 hb1 g0 g1 hlt1 => ?_)
  have H0 : Hid (RowB w1 30 w.heap.size x) := Lib.hid g0
  have hrow : w1.heap[w.heap.size + 1]? = some (.cells #[] 5 (0, 0)) := g1
  have HO0 : Hid (OwB w1 (w.heap.size + 1) (.slice (some ⟨w.heap.size + 1, 0, none⟩) 0 0) 0 []) := Lib.hid ⟨⟨rfl, .inr ⟨w.heap.size + 1, 0, _, rfl, Nat.le_refl _, hrow, Nat.le_refl _, by unfold maxLen; omega, rfl, rfl⟩⟩, fun _ h => by cases h⟩
  have HB1 := Lib.hid hb1
  clear g0 g1 hb1 hrow
  go_loopw [3, 4] (fun v s wr => ∃ k : Nat, k ≤ 32 ∧ s = .int .i64 k ∧ RowB wr 30 w.heap.size x ∧ OwB wr (w.heap.size + 1) v k (x.take k) ∧ Below w.heap.size w wr ∧ w.heap.size + 1 ≤ wr.heap.size) (fun _ s _ => 32 - (intOf s).toNat)
  case atStart => exact ⟨0, by omega, rfl, H0.out, HO0.out, HB1.out, by omega⟩
  case round =>
    clear H0 HO0 HB1
    obtain ⟨k, hk, rfl, hr, ho, hb, hz⟩ := hrel
    have HR := Lib.hid hr
    have HO := Lib.hid ho
    have HB := Lib.hid hb
    obtain ⟨C, f, rfl, hsl⟩ := ho.sl
    have HSL := Lib.hid hsl
    clear hr ho hb hsl
    by_cases hlt : k < 32
    · have hk1 : (k : Int) < 32 := by omega
      have hk0 : (0 : Int) ≤ (k : Int) := by omega
      have c0 := HR.out.at_ (some_getD (show k < x.length by rw [HL.out]; exact hlt))
      have hxb := getD_byte HXB.out k
      have HTS := Lib.hid (take_snoc (show k < x.length by rw [HL.out]; exact hlt))
      generalize x.getD k 0 = y at *
      go_upto_region 4 with (at_builtin; refine wpList_appendB rfl (.tmp 10) (.tmp 14) rfl (w.heap.size + 1) _ k _ rfl (HO.out.keep ((Below.refl _ _).alloc (Nat.le_refl _) _)) wr.heap.size 1 y rfl (One.new wr _ _) hxb (by omega) (by simp; omega) ?_; intro v1 w2 ho1 hb1; have HO1 := Lib.hid ho1; have HB2 := Lib.hid (((Below.refl (w.heap.size + 1) wr).alloc hz (.cells #[.int .u8 (y : Int)] 5)).trans hb1); obtain ⟨C1, f1, rfl, _⟩ := ho1.sl; clear ho1 hb1)
      go_wp2_with fail
      go_roundw
      case rel => exact ⟨k + 1, by omega, by go_num, HR.out.same (HB2.out.block _ (by omega)), by rw [← HTS.out]; exact HO1.out, HB.out.trans (HB2.out.mono (by omega)), Nat.le_trans hz HB2.out.size⟩
      case measure => simp [intOf]; omega
    · obtain rfl : k = 32 := by omega
      go_wp2_with fail
      go_ret
      have ho := OwB.monoB HO.out (Nat.le_succ _)
      rw [List.take_of_length_le (by rw [HL.out]; exact Nat.le_refl _)] at ho
      exact ⟨C, f, rfl, ho, HB.out⟩
set_option maxHeartbeats 4000000 in
theorem routputO_any (s : List Nat) (mk : Nat) (lb : ByteArray) (c : Nat) (w : World) (hl : s.length = 32) (hsb : ∀ x ∈ s, x < 256) (hc : c < 18446744073709551616) (hmk : mk < 256) (hlb : lb.size ≤ 200) (D : List Nat) (hD : outT s mk lb c = D) :
    Calls Tryd.prog 42 #[.agg (trC s c), .int .u8 (mk : Int), .string lb] w fun e w' => ∃ C f, e = .returned (.slice C 32 f) ∧ OwB w' w.heap.size (.slice C 32 f) 32 D ∧ Below w.heap.size w w' := by
  have HDs := Lib.hid (show s.length = 32 ∧ ∀ x ∈ s, x < 256 from ⟨hl, hsb⟩)
  clear hl hsb
  have HD := Lib.hid (show D.length = 32 ∧ ∀ x ∈ D, x < 256 by rw [← hD]; exact ⟨outT_length _ _ _ _, outT_lt _ _ _ _⟩)
  have HE := Lib.hid hD
  clear hD
  go_enter Tryd.func42, Tryd.ntmps42
  go_upto_region 1 with fail
  refine wp_named1 (fun V1 hb g0 hlt => ?_)
  have B0 := Lib.hid hb
  have F3 : Hid (RowT V1 w.heap.size s c) := Lib.hid g0
  clear hb g0 hlt
  refine wp_floatP [0, 1, 2, 3, 4, 5, 6, 7, 8, 9, 10] (l' := [_, _, _, _, _, _, _, _, _, _, _]) (by kernel_rfl) (lexOK_of (by kernel_rfl) (by kernel_rfl)) (ordOK_of (by kernel_rfl) (by kernel_rfl)) rfl rfl ?_
  simp only [List.getElem_toArray, List.getElem_cons_succ, List.getElem_cons_zero]
  intro V2 hb hSW
  have B1 := Lib.hid hb
  have HF2 := Lib.hid hSW
  clear hb hSW
  refine wpF_seg 3 (by kernel_rfl) ?_
  simp only [List.take_succ_cons, List.take_zero, List.drop_succ_cons, List.drop_zero]
  refine wpQuiet_val (by kernel_rfl) (.agg (trC s c)) (fun v hv => (exec_loadT w.heap.size s c HDs.out.1 (F3.out.keep (laterF hv)) rfl rfl)) ?_
  simp only [Act.put, List.setIfInBounds_toArray, List.set_cons_zero, List.set_cons_succ]
  refine wpQuiet_val (by kernel_rfl) (.int .u8 ((mk : Nat) : Int)) (fun v hv => rfl) ?_
  simp only [Act.put, List.setIfInBounds_toArray, List.set_cons_zero, List.set_cons_succ]
  refine wpQuiet_val (by kernel_rfl) (.string lb) (fun v hv => rfl) ?_
  simp only [Act.put, List.setIfInBounds_toArray, List.set_cons_zero, List.set_cons_succ]
  refine wpQuiet_nil ?_
  refine wpF_call 48 Tryd.func48 (by kernel_rfl) (by kernel_rfl) _ _ #[.agg (trC s c), .int .u8 ((mk : Nat) : Int), .string lb] rfl (by kernel_rfl) (by kernel_rfl) HF2.out (fun V3 hb => ?_)
  have B2 := Lib.hid hb
  have HF3 := Lib.hid (HF2.out.ext hb)
  clear hb
  refine (rtagged_any s c mk lb V3 HDs.out.1 HDs.out.2 (by omega) (by omega)).mono ?_
  rintro e V4 ⟨C3, f3, rfl, hs, hb⟩
  have B3 := Lib.hid hb
  have HF4 := Lib.hid (HF3.out.ext hb)
  have J3 := Lib.hid hs
  refine ⟨_, rfl, hb, ?_⟩
  clear hb hs
  simp only [Act.put, List.setIfInBounds_toArray, List.set_cons_zero, List.set_cons_succ]
  refine wpF_seg 2 (by kernel_rfl) ?_
  simp only [List.take_succ_cons, List.take_zero, List.drop_succ_cons, List.drop_zero]
  refine wpQuiet_val (by kernel_rfl) (.pointer (some ⟨w.heap.size, 32, none⟩)) (fun v hv => (exec_fT1 w.heap.size rfl rfl v)) ?_
  simp only [Act.put, List.setIfInBounds_toArray, List.set_cons_zero, List.set_cons_succ]
  refine wpQuiet_val (by kernel_rfl) (.int .u64 ((c : Nat) : Int)) (fun v hv => (exec_loadU _ _ ((F3.out.keep (laterF hv)).count HDs.out.1) rfl rfl)) ?_
  simp only [Act.put, List.setIfInBounds_toArray, List.set_cons_zero, List.set_cons_succ]
  refine wpQuiet_nil ?_
  refine wpF_call 49 Tryd.func49 (by kernel_rfl) (by kernel_rfl) _ _ #[.int .u64 ((c : Nat) : Int)] rfl (by kernel_rfl) (by kernel_rfl) HF4.out (fun V5 hb => ?_)
  have B4 := Lib.hid hb
  have HF5 := Lib.hid (HF4.out.ext hb)
  clear hb
  refine (rword_any c V5 (by omega)).mono ?_
  rintro e V6 ⟨C5, f5, rfl, hs, hb⟩
  have B5 := Lib.hid hb
  have HF6 := Lib.hid (HF5.out.ext hb)
  have J5 := Lib.hid hs
  refine ⟨_, rfl, hb, ?_⟩
  clear hb hs
  simp only [Act.put, List.setIfInBounds_toArray, List.set_cons_zero, List.set_cons_succ]
  refine wpF_call 32 Tryd.func32 (by kernel_rfl) (by kernel_rfl) _ _ #[.slice C3 (34 + lb.size) f3, .slice C5 8 f5] rfl (by kernel_rfl) (by kernel_rfl) HF6.out (fun V7 hb => ?_)
  have B6 := Lib.hid hb
  have HF7 := Lib.hid (HF6.out.ext hb)
  clear hb
  have C4_6 := Lib.hid (bel_step B4.out B5.out)
  have C4_7 := Lib.hid (bel_step C4_6.out B6.out)
  refine (rjoin_any C3 (34 + lb.size) f3 (s ++ ([mk, lb.size] ++ bytS lb)) C5 8 f5 (leN c) V7 (J3.out.keep C4_7.out) (J5.out.keep B6.out) (by omega)).mono ?_
  rintro e V8 ⟨C7, f7, rfl, hs, hb⟩
  have B7 := Lib.hid hb
  have HF8 := Lib.hid (HF7.out.ext hb)
  have J7 := Lib.hid hs
  refine ⟨_, rfl, hb, ?_⟩
  clear hb hs
  simp only [Act.put, List.setIfInBounds_toArray, List.set_cons_zero, List.set_cons_succ]
  refine wpF_call 35 Tryd.func35 (by kernel_rfl) (by kernel_rfl) _ _ #[.slice C7 ((34 + lb.size) + 8) f7] rfl (by kernel_rfl) (by kernel_rfl) HF8.out (fun V9 hb => ?_)
  have B8 := Lib.hid hb
  have HF9 := Lib.hid (HF8.out.ext hb)
  clear hb
  refine (rsum_any C7 ((34 + lb.size) + 8) f7 ((s ++ ([mk, lb.size] ++ bytS lb)) ++ (leN c)) V9 (J7.out.keep B8.out) (by omega) D (by rw [← HE.out]; unfold outT; simp)).mono ?_
  rintro e V10 ⟨rfl, hb⟩
  have B9 := Lib.hid hb
  have HF10 := Lib.hid (HF9.out.ext hb)
  refine ⟨_, rfl, hb, ?_⟩
  clear hb 
  simp only [Act.put, List.setIfInBounds_toArray, List.set_cons_zero, List.set_cons_succ]
  refine wpF_call 34 Tryd.func34 (by kernel_rfl) (by kernel_rfl) _ _ #[.agg (celB D).toArray] rfl (by kernel_rfl) (by kernel_rfl) HF10.out (fun V11 hb => ?_)
  have B10 := Lib.hid hb
  have HF11 := Lib.hid (HF10.out.ext hb)
  clear hb
  refine (rbytesO_any D V11 HD.out.1 HD.out.2).mono ?_
  rintro e V12 ⟨C11, f11, rfl, hs, hb⟩
  have B11 := Lib.hid hb
  have HF12 := Lib.hid (HF11.out.ext hb)
  have J11 := Lib.hid hs
  refine ⟨_, rfl, hb, ?_⟩
  clear hb hs
  simp only [Act.put, List.setIfInBounds_toArray, List.set_cons_zero, List.set_cons_succ]
  refine wpF_seg 1 (by kernel_rfl) ?_
  simp only [List.take_succ_cons, List.take_zero, List.drop_succ_cons, List.drop_zero]
  refine wpQuiet_val (by kernel_rfl) (.slice C11 32 f11) (fun v hv => rfl) ?_
  simp only [Act.put, List.setIfInBounds_toArray, List.set_cons_zero, List.set_cons_succ]
  refine wpQuiet_nil ?_
  refine wpF_nil (fun V13 hb => ?_)
  have B12 := Lib.hid hb
  clear hb
  clear HF2
  clear HF3
  clear HF4
  clear HF5
  clear HF6
  clear HF7
  clear HF8
  clear HF9
  clear HF10
  clear HF11
  clear HF12
  go_wp2_with fail
  go_ret
  have C0_2 := Lib.hid (bel_step B0.out B1.out)
  have C0_3 := Lib.hid (bel_step C0_2.out B2.out)
  have C0_4 := Lib.hid (bel_step C0_3.out B3.out)
  have C0_5 := Lib.hid (bel_step C0_4.out B4.out)
  have C0_6 := Lib.hid (bel_step C0_5.out B5.out)
  have C0_7 := Lib.hid (bel_step C0_6.out B6.out)
  have C0_8 := Lib.hid (bel_step C0_7.out B7.out)
  have C0_9 := Lib.hid (bel_step C0_8.out B8.out)
  have C0_10 := Lib.hid (bel_step C0_9.out B9.out)
  have C0_11 := Lib.hid (bel_step C0_10.out B10.out)
  have C0_12 := Lib.hid (bel_step C0_11.out B11.out)
  have C0_13 := Lib.hid (bel_step C0_12.out B12.out)
  exact ⟨_, _, rfl, OwB.monoB (J11.out.keep B12.out) C0_11.out.size, C0_13.out⟩
theorem OwB.same1 {w w' : World} {base : Nat} {v : Value} {n g : Nat} {bs : List Nat} (h : OwB w base v n bs) (hg : g < base) (hk : ∀ k o, k ≠ g → w.heap[k]? = some o → w'.heap[k]? = some o) : OwB w' base v n bs := h.same fun b o hb ho => hk b o (by omega) ho
end Go.Proofs.YtcaoajeplinopaaDoor

