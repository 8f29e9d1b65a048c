/- Several texts in one: Mnk, Mva, Mvb. -/
import Derived.Test.YtgkojdbepgonkaaDoorH20
import Derived.Test.YtgkojdbepgonkaaDoorH19
import Derived.Test.YtgkojdbepgonkaaDoorH18
/- The reference's Push. -/
namespace Go.Proofs.YtgkojdbepgonkaaDoor
set_option maxRecDepth 8000
set_option linter.unusedVariables false
set_option linter.unusedSimpArgs false
open Go.RowKit
attribute [local simp] z32_ne z32_run
attribute [-simp] Tryd.zeroValue34 Tryd.isAgg34 Tryd.sizeOf34
theorem OwD.caps {w : World} {base g n c : Nat} {Ds : List (List Nat)} (h : OwD w base (.slice (some ⟨g, 0, none⟩) n c) n Ds) : n ≤ c ∧ c ≤ 9223372036854775807 := by
  rcases h.1.2 with ⟨e, _⟩ | ⟨g', cap, cur, e, _, _, h1, h2, _⟩
  · cases e
  · injection e with e1 e2 e3
    subst e3
    unfold maxLen at h2
    exact ⟨h1, by omega⟩
theorem OwD.farRow {w : World} {base n : Nat} {v : Value} {Ds : List (List Nat)} (h : OwD w base v n Ds) (b : Nat) (ds : Array Value) (hne : v.ownBlock ≠ some b) : OwD (w.setRow b ds) base v n Ds := by
  refine ⟨⟨h.1.1, ?_⟩, h.2⟩
  rcases h.1.2 with hn | ⟨g, cap, cur, rfl, hbs, hgg, rest⟩
  · exact .inl hn
  · exact .inr ⟨g, cap, cur, rfl, hbs, (row_far (g := g) (fun e => hne (by rw [← e]; rfl)) ds).trans hgg, rest⟩
theorem exec_cut2 {ev : Operand → Value} {o : Oper} {x y : Operand} (w : World) (A : Option Addr) (n c p : Nat) (hp : p ≤ c) (ho : o.op = .slice 26 x none (some y) none) (hx : ev x = .slice A n c) (hy : ev y = .int .i64 ((p : Nat) : Int)) :
    (execOp ev o).run Tryd.prog w = .ok (.value (.slice A p c)) w := by
  have h0 : (0 : Int) ≤ (p : Int) := by omega
  have h1 : (p : Int) ≤ (c : Int) := by omega
  unfold execOp
  simp only [ho, hx]
  go_simp
  simp only [Tryd.sizeOf34, Result.andThen]
end Go.Proofs.YtgkojdbepgonkaaDoor

/- Moves of a plain region that name what is made and what is declared; whole records; wrappers of the contracts. -/
namespace Go.Proofs.YtgkojdbepgonkaaDoor
set_option linter.unusedVariables false
set_option linter.unusedSimpArgs false
set_option maxRecDepth 8000
open Go.RowKit
attribute [local simp] z32_ne z32_run
attribute [-simp] Tryd.zeroValue34 Tryd.isAgg34 Tryd.sizeOf34
section
variable {P : Program} {Q : Exit → Act → World → Prop} {ops : Array Oper}
/-- a call -/
theorem wpList_call {rest : List Oper} {o : Oper} {a : Act} {w : World} {fn : Func} (hw : Region.wanted o (yielded ops a.tmps) = true) (f : FuncId) (hf : P.funcs[f]? = some fn) (hname : (fn.name == "runtime.NumGoroutine") = false) (hb : fn.body.isNone = false) (args : Array Operand) (ts : Array TypeId) (vs : Array Value) (ho : o.op = .call { callee := .value (.func f), args := args, argTypes := ts })
    (hv : args.map a.eval = vs) (h : Calls P f vs w fun e w' => ∃ v, e = .returned v ∧ wpList P ops Q rest (a.put o.dst v) w') : wpList P ops Q (o :: rest) a w :=
  wpList_op hw (hOp_call f hf hname hb args ts vs ho hv h)
/-- what is made lies somewhere new -/
theorem wpList_mk {rest : List Oper} {o : Oper} {a : Act} {w : World} (hw : Region.wanted o (yielded ops a.tmps) = true) (cs : Array Value) (t : TypeId) (n c : Nat) (hr : (execOp a.eval o).run P w = .ok (.value (.slice (some ⟨w.heap.size, 0, none⟩) n c)) (w.alloc (.cells cs t)))
    (h : ∀ b W, w.heap.size ≤ b → W.heap[b]? = some (.cells cs t (0, 0)) → Below w.heap.size w W → wpList P ops Q rest (a.put o.dst (.slice (some ⟨b, 0, none⟩) n c)) W) : wpList P ops Q (o :: rest) a w :=
  wpList_run hw _ _ hr (h _ _ (Nat.le_refl _) (heap_new w _) ((Below.refl _ _).alloc (Nat.le_refl _) _))
theorem wpHeld_mk {S : World → Prop} {rest : List Oper} {o : Oper} {a : Act} {w : World} (hst : stillOp o = false) (hw : Region.wanted o (yielded ops a.tmps) = true) (cs : Array Value) (t : TypeId) (n c : Nat) (hr : (execOp a.eval o).run P w = .ok (.value (.slice (some ⟨w.heap.size, 0, none⟩) n c)) (w.alloc (.cells cs t)))
    (h : ∀ b W, w.heap.size ≤ b → W.heap[b]? = some (.cells cs t (0, 0)) → Below w.heap.size w W → S W ∧ wpHeld P ops S Q rest (a.put o.dst (.slice (some ⟨b, 0, none⟩) n c)) W) : wpHeld P ops S Q (o :: rest) a w :=
  have k := h _ _ (Nat.le_refl _) (heap_new w _) ((Below.refl _ _).alloc (Nat.le_refl _) _)
  wpHeld_run _ _ hst hw hr k.1 k.2
/-- a new variable and its first store -/
theorem wpList_decl {rest : List Oper} {o1 o2 : Oper} {a : Act} {w : World} (z row : Array Value) (t : TypeId) (hw1 : Region.wanted o1 (yielded ops a.tmps) = true) (hr : (execOp a.eval o1).run P w = .ok (.value (ptr w.heap.size)) (w.alloc (.cells z t)))
    (hw2 : ∀ b, Region.wanted o2 (yielded ops (a.put o1.dst (ptr b)).tmps) = true) (hs : ∀ b W, W.heap[b]? = some (.cells z t (0, 0)) → (execOp (a.put o1.dst (ptr b)).eval o2).run P W = .ok .skip (W.setRow b row))
    (h : ∀ b W, w.heap.size ≤ b → W.heap[b]? = some (.cells row t (0, 0)) → Below w.heap.size w W → wpList P ops Q rest ((a.put o1.dst (ptr b)).put o2.dst undef) W) : wpList P ops Q (o1 :: o2 :: rest) a w := by
  refine wpList_run hw1 _ _ hr ?_
  refine wpList_run0 (hw2 _) _ (hs w.heap.size _ (heap_new w _)) ?_
  refine h _ _ (Nat.le_refl _) ?_ (bel_setRow ((Below.refl _ _).alloc (Nat.le_refl _) _) (Nat.le_refl _) _)
  have h0 := heap_new w (.cells z t)
  obtain ⟨hlt, hk⟩ := Array.getElem?_eq_some_iff.1 h0
  show ((w.alloc (.cells z t)).heap.modify w.heap.size _)[w.heap.size]? = _
  rw [Array.getElem?_eq_getElem (by rw [Array.size_modify]; exact hlt), Array.getElem_modify_self, hk]
end
section
variable {ev : Operand → Value} {o : Oper}
theorem run_buildI1 {x : Operand} (y : Int) (ho : o.op = .buildSlice 22 1 #[(0, x)]) (hx : ev x = .int .i64 y) (w : World) :
    (execOp ev o).run Tryd.prog w = .ok (.value (.slice (some ⟨w.heap.size, 0, none⟩) 1 1)) (w.alloc (.cells #[.int .i64 y] 3)) := by
  unfold execOp
  rw [ho]
  simp only [List.map_toArray, List.map_cons, List.map_nil, hx]
  go_simp
theorem run_buildI2 {x x2 : Operand} (y y2 : Int) (ho : o.op = .buildSlice 22 2 #[(0, x), (1, x2)]) (hx : ev x = .int .i64 y) (hx2 : ev x2 = .int .i64 y2) (w : World) :
    (execOp ev o).run Tryd.prog w = .ok (.value (.slice (some ⟨w.heap.size, 0, none⟩) 2 2)) (w.alloc (.cells #[.int .i64 y, .int .i64 y2] 3)) := by
  unfold execOp
  rw [ho]
  simp only [List.map_toArray, List.map_cons, List.map_nil, hx, hx2]
  go_simp
theorem ib_cells1 {w : World} {b : Nat} {t : TypeId} {y : Int} (h : w.heap[b]? = some (.cells #[.int .i64 y] t (0, 0))) : Ib w (some ⟨b, 0, none⟩) 1 1 [y] :=
  ⟨rfl, Nat.le_refl _, by omega, (fun e => by cases e), fun i z hz => ⟨_, rfl, by
    rw [ad_base]
    match i, hz with
    | 0, hz => injection hz with hz; subst hz; simp [World.cell?, h]⟩⟩
theorem ib_cells2 {w : World} {b : Nat} {t : TypeId} {y y2 : Int} (h : w.heap[b]? = some (.cells #[.int .i64 y, .int .i64 y2] t (0, 0))) : Ib w (some ⟨b, 0, none⟩) 2 2 [y, y2] :=
  ⟨rfl, Nat.le_refl _, by omega, (fun e => by cases e), fun i z hz => ⟨_, rfl, by
    rw [ad_base]
    match i, hz with
    | 0, hz => injection hz with hz; subst hz; simp [World.cell?, h]
    | 1, hz => injection hz with hz; subst hz; simp [World.cell?, h]⟩⟩
theorem Ib.none_ (w : World) : Ib w none 0 0 [] := ⟨rfl, Nat.le_refl _, Nat.zero_le _, fun _ => rfl, fun i z hz => by cases i <;> cases hz⟩
theorem Pb.none_ (w : World) : Pb w none 0 0 [] := ⟨rfl, Nat.le_refl _, Nat.zero_le _, fun _ => rfl, fun i z hz => by cases i <;> cases hz⟩
theorem Db.none_ (w : World) : Db w none 0 0 [] := ⟨rfl, Nat.le_refl _, Nat.zero_le _, fun _ => rfl, fun d hd => (by cases hd), fun i z hz => by cases i <;> cases hz⟩
theorem pb_cells1 {w : World} {b : Nat} {t : TypeId} {B : Option Addr} {m d : Nat} {p : List Nat} (h : w.heap[b]? = some (.cells #[.slice B m d] t (0, 0))) (hs : Sb w B m d p) : Pb w (some ⟨b, 0, none⟩) 1 1 [p] :=
  Pb.row (vs := [.slice B m d]) h rfl (Nat.le_refl _) (by omega) fun i p' hp => by
    match i, hp with
    | 0, hp => injection hp with hp; subst hp; exact ⟨B, m, d, rfl, hs⟩
theorem db_cells1 {w : World} {b : Nat} {t : TypeId} {d : List Nat} (h : w.heap[b]? = some (.cells (celB d).toArray t (0, 0))) (hd : d.length = 32 ∧ ∀ x ∈ d, x < 256) : Db w (some ⟨b, 0, none⟩) 1 1 [d] :=
  ⟨rfl, Nat.le_refl _, by omega, (fun e => by cases e), fun e he => by rw [List.mem_singleton.1 he]; exact hd, fun i e he => ⟨b, 0, rfl, by
    match i, he with
    | 0, he => injection he with he; subst he; intro j u hu; simpa [World.cell?, h] using hu⟩⟩
/-- []api.Digest{d, e} -/
theorem run_buildS2 {x y : Operand} {d e : List Nat} (hdl : d.length = 32) (hel : e.length = 32) (ho : o.op = .buildSlice 26 2 #[(0, x), (1, y)]) (hx : ev x = .agg (celB d).toArray) (hy : ev y = .agg (celB e).toArray) (w : World) :
    (execOp ev o).run Tryd.prog w = .ok (.value (.slice (some ⟨w.heap.size, 0, none⟩) 2 2)) (w.alloc (.cells (celB (d ++ e)).toArray 34)) := by
  obtain ⟨i, hi, hz, hs2, hb⟩ := info_parts dig_info
  unfold execOp
  simp only [ho, List.map_toArray, List.map_cons, List.map_nil, hx, hy, Sem.run_bind]
  have hz2 : (Value.agg z32).cells.size = 32 := rfl
  have hf : Instr.fill (fun k => some (k * i.size, i.size)) ((Array.range (2 * i.size)).map ((Value.agg z32).cells[· % (Value.agg z32).cells.size]!)) #[(0, .agg (celB d).toArray), (1, .agg (celB e).toArray)].toList = some (celB (d ++ e)).toArray := by
    rw [hs2]
    have h2 := Go.Great.fill_whole (s := 32) (by omega) [.agg (celB d).toArray, .agg (celB e).toArray] ((Array.range (2 * 32)).map ((Value.agg z32).cells[· % (Value.agg z32).cells.size]!)) (fun v hv => by
      rcases List.mem_cons.1 hv with rfl | hv
      · show (celB d).toArray.size = 32; rw [List.size_toArray, celB_length, hdl]
      · rw [List.mem_singleton.1 hv]; show (celB e).toArray.size = 32; rw [List.size_toArray, celB_length, hel]) (by simp)
    have h3 : celB (d ++ e) = celB d ++ celB e := by unfold celB; simp
    rw [h3]
    simpa [Value.cells] using h2
  rw [run_buildSlice (P := Tryd.prog) w 26 34 2 #[(0, .agg (celB d).toArray), (1, .agg (celB e).toArray)] (celB (d ++ e)).toArray i (.agg z32) Tryd.underlying26 hi hz (by rw [hs2]; omega) (by rw [hs2]; omega) hf]
  rfl
theorem db_cells2 {w : World} {b : Nat} {t : TypeId} {d e : List Nat} (h : w.heap[b]? = some (.cells (celB (d ++ e)).toArray t (0, 0))) (hd : d.length = 32 ∧ ∀ x ∈ d, x < 256) (he : e.length = 32 ∧ ∀ x ∈ e, x < 256) : Db w (some ⟨b, 0, none⟩) 2 2 [d, e] := by
  have h3 : celB (d ++ e) = celB d ++ celB e := by unfold celB; simp
  refine ⟨rfl, Nat.le_refl _, by omega, (fun e => by cases e), fun f hf => ?_, fun i f hf => ⟨b, 0, rfl, ?_⟩⟩
  · rcases List.mem_cons.1 hf with rfl | hf
    · exact hd
    · rw [List.mem_singleton.1 hf]; exact he
  · match i, hf with
    | 0, hf =>
      injection hf with hf; subst hf; intro j u hu
      have hj := (List.getElem?_eq_some_iff.1 hu).1
      simp only [World.cell?, h, Nat.mul_zero, Nat.zero_add, h3]
      simpa [List.getElem?_append_left hj] using hu
    | 1, hf =>
      injection hf with hf; subst hf; intro j u hu
      have hdl : (celB d).length = 32 := by rw [celB_length, hd.1]
      simp only [World.cell?, h, h3]
      rw [show 0 + 32 * 1 + j = (celB d).length + j by omega]
      simpa [List.getElem?_append_right] using hu
/-- the element of a list of byte lists -/
structure El (w : World) (ad : Addr) (i : Nat) (B : Option Addr) (m d : Nat) (p : List Nat) : Prop where
  cell : w.cell? (ad.add i) = some (.slice B m d)
  sb : Sb w B m d p
theorem El.keep {w w' : World} {ad : Addr} {i : Nat} {B : Option Addr} {m d : Nat} {p : List Nat} (h : El w ad i B m d p) (hb : Below w.heap.size w w') : El w' ad i B m d p := ⟨cell_keep h.cell hb, h.sb.keep hb⟩
theorem Pb.el {w : World} {ad : Addr} {n c : Nat} {Ps : List (List Nat)} (h : Pb w (some ad) n c Ps) {i : Nat} {p : List Nat} (hi : Ps[i]? = some p) : ∃ B m d, El w ad i B m d p := by
  obtain ⟨ad', B, m, d, e, h1, h2⟩ := h.cells i p hi
  injection e with e
  subst e
  exact ⟨B, m, d, h1, h2⟩
theorem exec_idxP {x y : Operand} (w : World) (ad : Addr) (n c i : Nat) (hi : i < n) (ho : o.op = .indexAddr 23 x y) (hx : ev x = .slice (some ad) n c) (hy : ev y = .int .i64 ((i : Nat) : Int)) :
    (execOp ev o).run Tryd.prog w = .ok (.value (.pointer (some (ad.add i)))) w := by
  have h0 : (0 : Int) ≤ (i : Int) := by omega
  have h1 : (i : Int) < (n : Int) := by omega
  unfold execOp
  simp only [ho, hx, hy]
  go_simp
theorem exec_loadS {x : Operand} {w : World} (a : Addr) (B : Option Addr) (m d : Nat) (hc : w.cell? a = some (.slice B m d)) (ho : o.op = .load 29 x) (hx : ev x = .pointer (some a)) :
    (execOp ev o).run Tryd.prog w = .ok (.value (.slice B m d)) w := by
  unfold execOp
  simp only [ho, hx]
  go_simp
theorem exec_loadSD {x : Operand} {w : World} (a : Addr) (B : Option Addr) (m d : Nat) (hc : w.cell? a = some (.slice B m d)) (ho : o.op = .load 26 x) (hx : ev x = .pointer (some a)) :
    (execOp ev o).run Tryd.prog w = .ok (.value (.slice B m d)) w := by
  unfold execOp
  simp only [ho, hx]
  go_simp
theorem exec_headP {x : Operand} (w : World) (ad : Addr) (n c k : Nat) (hk : k ≤ n) (hc : n ≤ c) (ho : o.op = .slice 23 x none (some (.const (.int .i64 (k : Int)))) none) (hx : ev x = .slice (some ad) n c) (hy : ev (.const (.int .i64 (k : Int))) = .int .i64 (k : Int)) :
    (execOp ev o).run Tryd.prog w = .ok (.value (.slice (some ad) k c)) w := exec_takeP w ad n c k hk hc ho hx hy
theorem exec_loadOp {x : Operand} {w : World} (g : Nat) (u : Value) (ho : o.op = .load 28 x) (hx : ev x = .pointer (some ⟨g, 0, none⟩)) (hc : w.heap[g]? = some (.cells #[u] 28 (0, 0))) :
    (execOp ev o).run Tryd.prog w = .ok (.value (.agg #[u])) w := by
  unfold execOp
  simp only [ho, hx, Instr.loadAt, Instr.sureAddr, Sem.run_bind, Sem.run_pure, Result.andThen_ok]
  rw [run_loadVar_row w g 28 28 #[u] (0, 0) _ hc Tryd.underlying28 rfl (by kernel_rfl)]
  rfl
theorem exec_loadMb {x : Operand} {w : World} (g : Nat) (u1 u2 u3 u4 : Value) (ho : o.op = .load 31 x) (hx : ev x = .pointer (some ⟨g, 0, none⟩)) (hc : w.heap[g]? = some (.cells #[u1, u2, u3, u4] 31 (0, 0))) :
    (execOp ev o).run Tryd.prog w = .ok (.value (.agg #[u1, u2, u3, u4])) w := by
  unfold execOp
  simp only [ho, hx, Instr.loadAt, Instr.sureAddr, Sem.run_bind, Sem.run_pure, Result.andThen_ok]
  rw [run_loadVar_row w g 31 31 #[u1, u2, u3, u4] (0, 0) _ hc Tryd.underlying31 rfl (by kernel_rfl)]
  rfl
theorem exec_storeOp {x y : Operand} {w : World} (g : Nat) (u : Value) (A : Option Addr) (n c : Nat) (ho : o.op = .store 28 x y) (hx : ev x = .pointer (some ⟨g, 0, none⟩)) (hy : ev y = .agg #[.slice A n c]) (hc : w.heap[g]? = some (.cells #[u] 28 (0, 0))) :
    (execOp ev o).run Tryd.prog w = .ok .skip (w.setRow g #[.slice A n c]) := exec_storeRow g _ _ ho hx hy hc (by kernel_rfl) rfl (by simp [Value.oneCell'])
theorem exec_storeMb {x y : Operand} {w : World} (g : Nat) (u1 u2 u3 u4 : Value) (i j : Int) (A B : Option Addr) (n c m d : Nat) (ho : o.op = .store 31 x y) (hx : ev x = .pointer (some ⟨g, 0, none⟩)) (hy : ev y = .agg #[.int .i64 i, .int .i64 j, .slice A n c, .slice B m d]) (hc : w.heap[g]? = some (.cells #[u1, u2, u3, u4] 31 (0, 0))) :
    (execOp ev o).run Tryd.prog w = .ok .skip (w.setRow g #[.int .i64 i, .int .i64 j, .slice A n c, .slice B m d]) := exec_storeRow g _ _ ho hx hy hc (by kernel_rfl) rfl (by simp [Value.oneCell'])
theorem exec_allocOp (w : World) (ho : o.op = .alloc 28) : (execOp ev o).run Tryd.prog w = .ok (.value (ptr w.heap.size)) (w.alloc (.cells #[.slice none 0 0] 28)) := by
  unfold execOp
  rw [ho]
  go_simp
  rfl
theorem exec_allocLv (w : World) (ho : o.op = .alloc 25) : (execOp ev o).run Tryd.prog w = .ok (.value (ptr w.heap.size)) (w.alloc (.cells #[.slice none 0 0, .slice none 0 0] 25)) := by
  unfold execOp
  rw [ho]
  go_simp
  rfl
theorem exec_allocMb (w : World) (ho : o.op = .alloc 31) : (execOp ev o).run Tryd.prog w = .ok (.value (ptr w.heap.size)) (w.alloc (.cells #[.int .i64 0, .int .i64 0, .slice none 0 0, .slice none 0 0] 31)) := by
  unfold execOp
  rw [ho]
  go_simp
  rfl
theorem exec_storeI {x y : Operand} {w : World} {t : TypeId} (g i : Nat) (cs : Array Value) (u : Value) (z : Int) (hg : w.heap[g]? = some (.cells cs t (0, 0))) (hi : cs[i]? = some u) (ho : o.op = .store 3 x y) (hx : ev x = .pointer (some ⟨g, i, none⟩)) (hy : ev y = .int .i64 z) :
    (execOp ev o).run Tryd.prog w = .ok .skip (w.setCell ⟨g, i, none⟩ (.int .i64 z)) := by
  have c0 := cells_at hg i hi
  have f0 := frozen_of_row w g i _ _ hg
  unfold execOp
  simp only [ho, hx, hy]
  go_simp
end
/-! ### Contracts with named results -/
theorem OwP.pb_ {w w0 : World} {v : Value} {n : Nat} {Ps : List (List Nat)} (h : OwP w w0.heap.size v n Ps) : ∃ A c, v = .slice A n c ∧ Pb w A n c Ps := h.pb
theorem open_yes (A : Option Addr) (n c : Nat) (Ls : List (List Nat)) (I : Option Addr) (k d : Nat) (is : List Int) (w : World) (h : Pb w A n c Ls) (hi : Ib w I k d is) (hn1 : 1 ≤ n) (hn : n ≤ 65536) (hL : ∀ l ∈ Ls, l.length ≤ 140737488351232) (hG : Gl w) (hinc : incF 0 (n : Int) is = true) (D : List (List Nat)) (hD : digsN Ls (closedN 0 n is) = D) :
    Calls Tryd.prog 46 #[.slice A n c, .slice I k d] w fun e w' => ∃ B m f, e = .returned (.tuple #[.agg #[.slice B m f], .int .i64 0]) ∧ Db w' B m f D ∧ Below w.heap.size w w' :=
  (open_any A n c Ls I k d is w h hi hn1 hn hL hG).mono fun e w' hh => by
    rcases hh with ⟨_, v, he, ho, hb⟩ | ⟨hf, _⟩
    · rw [hD] at ho
      obtain ⟨B, f, e2, hd⟩ := ho.db (fun x hx y hy => by
        rw [← hD] at hx
        unfold digsN at hx
        obtain ⟨z, _, rfl⟩ := List.mem_map.1 hx
        exact rootN_lt _ y hy)
      subst e2
      exact ⟨B, _, f, he, hd, hb⟩
    · rw [hinc] at hf; cases hf
theorem open_no (A : Option Addr) (n c : Nat) (Ls : List (List Nat)) (I : Option Addr) (k d : Nat) (is : List Int) (w : World) (h : Pb w A n c Ls) (hi : Ib w I k d is) (hn1 : 1 ≤ n) (hn : n ≤ 65536) (hL : ∀ l ∈ Ls, l.length ≤ 140737488351232) (hG : Gl w) (hinc : incF 0 (n : Int) is = false) :
    Calls Tryd.prog 46 #[.slice A n c, .slice I k d] w fun e w' => e = .returned (.tuple #[.agg #[.slice none 0 0], .int .i64 1]) ∧ Below w.heap.size w w' :=
  (open_any A n c Ls I k d is w h hi hn1 hn hL hG).mono fun e w' hh => by
    rcases hh with ⟨hf, _⟩ | ⟨_, he, hb⟩
    · rw [hinc] at hf; cases hf
    · exact ⟨he, hb⟩
theorem witness_yes (A : Option Addr) (n c : Nat) (Ls : List (List Nat)) (i : Int) (w : World) (h : Pb w A n c Ls) (hn1 : 1 ≤ n) (hn : n ≤ 65536) (hL : ∀ l ∈ Ls, l.length ≤ 140737488351232) (hG : Gl w) (hi : 0 ≤ i ∧ i < (n : Int)) (D : List (List Nat)) (hD : digsN Ls (sibN 0 n i) = D) :
    Calls Tryd.prog 47 #[.slice A n c, .int .i64 i] w fun e w' => ∃ B m f, e = .returned (.tuple #[.slice B m f, .int .i64 0]) ∧ Db w' B m f D ∧ Below w.heap.size w w' :=
  (witness_any A n c Ls i w h hn1 hn hL hG).mono fun e w' hh => by
    rcases hh with ⟨_, v, he, ho, hb⟩ | ⟨hf, _⟩
    · rw [hD] at ho
      obtain ⟨B, f, e2, hd⟩ := ho.db (fun x hx y hy => by
        rw [← hD] at hx
        unfold digsN at hx
        obtain ⟨z, _, rfl⟩ := List.mem_map.1 hx
        exact rootN_lt _ y hy)
      subst e2
      exact ⟨B, _, f, he, hd, hb⟩
    · exact absurd hi hf
theorem witness_no (A : Option Addr) (n c : Nat) (Ls : List (List Nat)) (i : Int) (w : World) (h : Pb w A n c Ls) (hn1 : 1 ≤ n) (hn : n ≤ 65536) (hL : ∀ l ∈ Ls, l.length ≤ 140737488351232) (hG : Gl w) (hi : ¬ (0 ≤ i ∧ i < (n : Int))) :
    Calls Tryd.prog 47 #[.slice A n c, .int .i64 i] w fun e w' => e = .returned (.tuple #[.slice none 0 0, .int .i64 1]) ∧ Below w.heap.size w w' :=
  (witness_any A n c Ls i w h hn1 hn hL hG).mono fun e w' hh => by
    rcases hh with ⟨hf, _⟩ | ⟨_, he, hb⟩
    · exact absurd hf hi
    · exact ⟨he, hb⟩
theorem pushF_dig : ∀ (k : Nat) (P : List (List Nat)) (m : Nat) (d : List Nat), (∀ x ∈ P, ∀ y ∈ x, y < 256) → (∀ y ∈ d, y < 256) → ∀ x ∈ pushF k P m d, ∀ y ∈ x, y < 256
  | 0, P, _, d, hP, hd, x, hx => by
    unfold pushF at hx
    rcases List.mem_append.1 hx with h | h
    · exact hP x h
    · rw [List.mem_singleton.1 h]; exact hd
  | k + 1, P, m, d, hP, hd, x, hx => by
    unfold pushF at hx
    split at hx
    · exact pushF_dig k _ _ _ (fun z hz => hP z ((List.dropLast_sublist P).subset hz)) (prN_lt _ _) x hx
    · rcases List.mem_append.1 hx with h | h
      · exact hP x h
      · rw [List.mem_singleton.1 h]; exact hd
theorem pushN_dig {P : List (List Nat)} {m : Nat} {b : List Nat} (hP : ∀ x ∈ P, ∀ y ∈ x, y < 256) : ∀ x ∈ pushN P m (lfN b), ∀ y ∈ x, y < 256 := pushF_dig _ _ _ _ hP (lfN_lt b)
theorem push_db (A : Option Addr) (n c : Nat) (Ds : List (List Nat)) (cnt : Nat) (B : Option Addr) (nb cb : Nat) (b : List Nat) (w : World) (h : Db w A n c Ds) (hn : n ≤ 60000) (hc : cnt ≤ 100000) (hB : Sb w B nb cb b) (hnb : nb ≤ 140737488351232) (hG : Gl w) (D : List (List Nat)) (hD : pushN Ds cnt (lfN b) = D) :
    Calls Tryd.prog 48 #[.slice A n c, .int .i64 (cnt : Int), .slice B nb cb] w fun e w' => ∃ A2 m f, e = .returned (.slice A2 m f) ∧ Db w' A2 m f D ∧ Below w.heap.size w w' :=
  (push_any A n c Ds cnt B nb cb b w h hn hc hB hnb hG).mono fun e w' hh => by
    obtain ⟨v, he, ho, hb⟩ := hh
    have hdg := pushN_dig (m := cnt) (b := b) (fun x hx => (h.dig x hx).2)
    rw [hD] at ho hdg
    obtain ⟨A2, f, e2, hd⟩ := ho.db hdg
    subst e2
    exact ⟨A2, _, f, he, hd, hb⟩
end Go.Proofs.YtgkojdbepgonkaaDoor

/- What the fixed examples of stage 8 reckon. No program. -/
namespace Go.Proofs.YtgkojdbepgonkaaDoor
set_option linter.unusedVariables false
set_option linter.unusedSimpArgs false
set_option maxRecDepth 8000
open Go.RowKit
theorem sx_one : rootN [[97]] = lfN [97] := rfl
theorem sx_two : rootN [[97], [98]] = prN (lfN [97]) (lfN [98]) := by
  rw [rootN_split (by decide)]; rfl
theorem sx_root : rootN [[97], [98], [99]] = prN (prN (lfN [97]) (lfN [98])) (lfN [99]) := by
  rw [rootN_split (by decide)]
  show shaN (1 :: (rootN [[97], [98]] ++ rootN [[99]])) = _
  rw [sx_two]; rfl
theorem sx_open1 : digsN [[97], [98], [99]] (closedN 0 3 [1]) = [lfN [97], lfN [99]] := by
  rw [show closedN 0 3 [1] = [(0, 1), (2, 1)] by kernel_rfl]; rfl
theorem sx_open0 : digsN [[97], [98], [99]] (closedN 0 3 []) = [rootN [[97], [98], [99]]] := by
  rw [show closedN 0 3 [] = [(0, 3)] by kernel_rfl]; rfl
theorem sx_sib2 : sibN 0 3 2 = [(0, 2)] := by kernel_rfl
theorem sx_wit : digsN [[97], [98], [99]] (sibN 0 3 2) = [prN (lfN [97]) (lfN [98])] := by
  rw [sx_sib2, ← sx_two]; rfl
theorem sx_push0 (x : List Nat) : pushN [] 0 x = [x] := rfl
theorem sx_push1 (x y : List Nat) : pushN [x] 1 y = [prN x y] := by
  rw [show [x] = [] ++ [x] from rfl, pushN_join x y (by decide)]; rfl
theorem sx_push2 (x y : List Nat) : pushN [x] 2 y = [x, y] := by
  rw [pushN_stop y (by simp)]; rfl
theorem sx_bag (x y : List Nat) : bagN [x, y] = prN x y := rfl
theorem sx_reb2 (a c x : List Nat) : rebN 0 2 [1] [x] [a, c] = (prN a (lfN x), [c]) := by
  rw [rebN_split 0 (s := 2) (j := 0) [x] [a, c] (by simp) (Nat.le_refl _) (by kernel_rfl)]
  have hl : leftN 2 = 1 := by kernel_rfl
  simp only [List.take_zero, List.drop_zero, hl]
  rw [rebN_nil 0 [] [a, c] (Nat.le_refl 1)]
  simp only [Nat.zero_add, Nat.reduceSub, List.headD_cons, List.tail_cons]
  rw [rebN_one 1 [x] [c] (by simp)]
  simp only [List.headD_cons]
theorem sx_reb (a c x : List Nat) : (rebN 0 3 [1] [x] [a, c]).1 = prN (prN a (lfN x)) c := by
  rw [rebN_split 0 (s := 3) (j := 1) [x] [a, c] (by simp) (by omega) (by kernel_rfl)]
  have hl : leftN 3 = 2 := by kernel_rfl
  simp only [hl, List.take_succ_cons, List.take_zero, List.drop_succ_cons, List.drop_zero, sx_reb2, Nat.zero_add, Nat.reduceSub]
  rw [rebN_nil 2 [] [c] (Nat.le_refl 1)]
  simp only [List.headD_cons]
theorem sx_ver0 : verN (prN (prN (lfN [97]) (lfN [98])) (lfN [99])) 3 [1] [[98]] [lfN [97], lfN [99]] = 0 := by
  unfold verN
  rw [if_neg (by decide), if_neg (by decide), if_neg (by decide), if_neg (by decide), if_neg (by rw [show closedN 0 (3 : Int).toNat [1] = [(0, 1), (2, 1)] by kernel_rfl]; decide)]
  rw [show (rebN 0 (3 : Int).toNat [1] [[98]] [lfN [97], lfN [99]]).1 = _ from sx_reb _ _ _, if_neg (by simp)]
theorem sx_diff : decide (prN (prN (lfN [97]) (lfN [97])) (lfN [99]) = prN (prN (lfN [97]) (lfN [98])) (lfN [99])) = false := by kernel_rfl
theorem sx_ver1 : verN (prN (prN (lfN [97]) (lfN [98])) (lfN [99])) 3 [1] [[97]] [lfN [97], lfN [99]] = 80 := by
  unfold verN
  rw [if_neg (by decide), if_neg (by decide), if_neg (by decide), if_neg (by decide), if_neg (by rw [show closedN 0 (3 : Int).toNat [1] = [(0, 1), (2, 1)] by kernel_rfl]; decide)]
  rw [show (rebN 0 (3 : Int).toNat [1] [[97]] [lfN [97], lfN [99]]).1 = _ from sx_reb _ _ _, if_pos (of_decide_eq_false sx_diff)]
theorem sx_ver2 (r : List Nat) (ns : List (List Nat)) : verN r 3 [1] [] ns = 1 := by
  unfold verN
  rw [if_neg (by decide), if_neg (by decide), if_pos (by decide)]
theorem sx_ver3 (r : List Nat) (ns : List (List Nat)) : verN r 0 [] [] ns = 1 := by
  unfold verN
  rw [if_pos (by decide)]
theorem sx_ver4 (r : List Nat) (ns : List (List Nat)) : verN r 65537 [] [] ns = 2 := by
  unfold verN
  rw [if_neg (by decide), if_neg (by decide), if_neg (by decide), if_pos (by decide)]
theorem sx_con0 (ab : List Nat) : containsN [ab, lfN [99]] 3 2 [99] [ab] = true := by
  unfold containsN
  rw [if_neg (by decide), if_neg (by decide), if_neg (by decide), if_neg (by decide), if_neg (by rw [show onesN (3 : Int).toNat = 2 by kernel_rfl]; simp), show sibN 0 (3 : Int).toNat 2 = [(0, 2)] by kernel_rfl, if_neg (by simp)]
  exact decide_eq_true rfl
theorem sx_con1 (ab c : List Nat) : containsN [ab, c] 3 1 [99] [ab] = false := by
  unfold containsN
  rw [if_neg (by decide), if_neg (by decide), if_neg (by decide), if_neg (by decide), if_neg (by rw [show onesN (3 : Int).toNat = 2 by kernel_rfl]; simp), show sibN 0 (3 : Int).toNat 1 = [(0, 1), (2, 1)] by kernel_rfl, if_pos (by simp)]
theorem sx_con2 (ab : List Nat) : containsN [ab] 3 2 [99] [ab] = false := by
  unfold containsN
  rw [if_neg (by decide), if_neg (by decide), if_neg (by decide), if_neg (by decide), if_pos (by rw [show onesN (3 : Int).toNat = 2 by kernel_rfl]; simp)]
theorem texts_pb (n : Nat) (Ls : List (List Nat)) (w : World) (hn1 : 1 ≤ n) (hn : n ≤ 1000) (hL : textsN n = Ls) :
    Calls Tryd.prog 42 #[.int .i64 (n : Int)] w fun e w' => ∃ ad c, e = .returned (.slice (some ad) n c) ∧ Pb w' (some ad) n c Ls ∧ Below w.heap.size w w' :=
  (texts_any n w hn).mono fun e w' ⟨v, he, ho, hb⟩ => by
    obtain ⟨A, c, e2, hp⟩ := ho.pb
    subst e2
    obtain ⟨ad, rfl⟩ := hp.some_ (by omega)
    rw [hL] at hp
    exact ⟨ad, c, he, hp, hb⟩
theorem Pb.el1 {w : World} {ad : Addr} {n c : Nat} {Ps : List (List Nat)} (h : Pb w (some ad) n c Ps) {i : Nat} {p : List Nat} (hi : Ps[i]? = some p) : ∃ B d, El w ad i B p.length d p := by
  obtain ⟨B, m, d, h1⟩ := h.el hi
  have := h1.sb.len
  subst this
  exact ⟨B, d, h1⟩
end Go.Proofs.YtgkojdbepgonkaaDoor
