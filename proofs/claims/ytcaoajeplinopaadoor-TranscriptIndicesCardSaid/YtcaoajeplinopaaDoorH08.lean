/- Several texts in one: Trd, Tre, Fre, Trf. -/
import Derived.Lib.SlBytesConst
import Derived.Test.YtcaoajeplinopaaDoorH07
import Derived.Test.YtcaoajeplinopaaDoorH06
import Derived.Laws.IdiomRangeMap
namespace Go.Proofs.YtcaoajeplinopaaDoor
set_option linter.unusedVariables false
set_option linter.unusedSimpArgs false
set_option maxRecDepth 8000
open Go.RowKit
section
variable {ev : Operand → Value} {o : Oper}
theorem exec_fT0 {x : Operand} (g : Nat) (ho : o.op = .fieldAddr 32 x 0) (hx : ev x = .pointer (some ⟨g, 0, none⟩)) (w : World) : (execOp ev o).run Tryd.prog w = .ok (.value (.pointer (some ⟨g, 0, none⟩))) w := by
  unfold execOp
  simp only [ho, hx]
  go_simp
theorem exec_fT1 {x : Operand} (g : Nat) (ho : o.op = .fieldAddr 32 x 1) (hx : ev x = .pointer (some ⟨g, 0, none⟩)) (w : World) : (execOp ev o).run Tryd.prog w = .ok (.value (.pointer (some ⟨g, 32, none⟩))) w := by
  unfold execOp
  simp only [ho, hx]
  go_simp
end
attribute [local simp] z32_ne z32_run
attribute [-simp] Tryd.zeroValue30 Tryd.isAgg30 Tryd.sizeOf30
attribute [-simp] Tryd.zeroValue32 Tryd.isAgg32 Tryd.sizeOf32
/-- the cells of a transcript -/
def trC (s : List Nat) (c : Nat) : Array Value := (celB s ++ [Value.int .u64 (c : Int)]).toArray
def z33 : Array Value := trC (List.replicate 32 0) 0
theorem trC_size {s : List Nat} (h : s.length = 32) (c : Nat) : (trC s c).size = 33 := by unfold trC; simp [celB_length, h]
theorem z33_size : z33.size = 33 := trC_size (by simp) 0
theorem z33_ne : z33 ≠ #[] := fun e => by have h := z33_size; rw [e] at h; simp at h
theorem z33_run (w : World) : Sem.run Tryd.prog (zeroValue 32) w = .ok (.agg z33) w := Tryd.zeroValue32 w
theorem trC_info {s : List Nat} (h : s.length = 32) (c : Nat) : (Tryd.prog.info? 32).map (·.size) = some (trC s c).size := by rw [trC_size h]; kernel_rfl
theorem trC_one (s : List Nat) (c : Nat) : (trC s c).all (·.oneCell') = true := by
  unfold trC
  rw [List.all_toArray, List.all_append, ← List.all_toArray, celB_one]
  rfl
/-- block g holds a transcript -/
def RowT (w : World) (g : Nat) (s : List Nat) (c : Nat) : Prop := w.heap[g]? = some (.cells (trC s c) 32 (0, 0))
theorem RowT.keep {w w' : World} {g : Nat} {s : List Nat} {c : Nat} (h : RowT w g s c) (hb : Below w.heap.size w w') : RowT w' g s c := heap_keep h hb
theorem RowT.range {w : World} {g : Nat} {s : List Nat} {c : Nat} (h : RowT w g s c) : w.rangeAt g 0 (celB s) := fun j v hj => by
  have hl := (List.getElem?_eq_some_iff.1 hj).1
  rw [Nat.zero_add]
  refine cells_at h j ?_
  unfold trC
  rw [List.getElem?_toArray, List.getElem?_append_left hl]
  exact hj
theorem trC_count {s : List Nat} (hl : s.length = 32) (c : Nat) : (trC s c)[32]? = some (.int .u64 (c : Int)) := by
  unfold trC
  rw [List.getElem?_toArray, List.getElem?_append_right (by rw [celB_length]; omega), celB_length, hl]
  rfl
theorem RowT.count {w : World} {g : Nat} {s : List Nat} {c : Nat} (h : RowT w g s c) (hl : s.length = 32) : w.cell? ⟨g, 32, none⟩ = some (.int .u64 (c : Int)) := cells_at h 32 (trC_count hl c)
section
variable {ev : Operand → Value} {o : Oper}
theorem exec_loadT {x : Operand} {w : World} (g : Nat) (s : List Nat) (c : Nat) (hl : s.length = 32) (hc : RowT w g s c) (ho : o.op = .load 32 x) (hx : ev x = .pointer (some ⟨g, 0, none⟩)) :
    (execOp ev o).run Tryd.prog w = .ok (.value (.agg (trC s c))) w := by
  unfold execOp
  simp only [ho, hx, Instr.loadAt, Instr.sureAddr, Sem.run_bind, Sem.run_pure, Result.andThen_ok]
  rw [run_loadVar_row w g 32 32 (trC s c) (0, 0) _ hc Tryd.underlying32 rfl (trC_info hl c)]
  rfl
theorem exec_loadTs {x : Operand} {w : World} (g : Nat) (s : List Nat) (c : Nat) (hl : s.length = 32) (hc : RowT w g s c) (ho : o.op = .load 30 x) (hx : ev x = .pointer (some ⟨g, 0, none⟩)) :
    (execOp ev o).run Tryd.prog w = .ok (.value (.agg (celB s).toArray)) w := exec_loadM g 0 hl hc.range ho hx
theorem exec_loadU {x : Operand} {w : World} (a : Addr) (z : Int) (hc : w.cell? a = some (.int .u64 z)) (ho : o.op = .load 25 x) (hx : ev x = .pointer (some a)) :
    (execOp ev o).run Tryd.prog w = .ok (.value (.int .u64 z)) w := by
  unfold execOp
  simp only [ho, hx]
  go_simp
theorem exec_storeT {x y : Operand} {w : World} (g : Nat) (s0 : List Nat) (c0 : Nat) (s : List Nat) (c : Nat) (hl0 : s0.length = 32) (hl : s.length = 32) (hc : RowT w g s0 c0) (ho : o.op = .store 32 x y) (hx : ev x = .pointer (some ⟨g, 0, none⟩)) (hy : ev y = .agg (trC s c)) :
    (execOp ev o).run Tryd.prog w = .ok .skip (w.setRow g (trC s c)) := exec_storeRow g _ _ ho hx hy hc (trC_info hl c) (by rw [trC_size hl, trC_size hl0]) (trC_one s c)
theorem exec_allocT (w : World) (ho : o.op = .alloc 32) : (execOp ev o).run Tryd.prog w = .ok (.value (ptr w.heap.size)) (w.alloc (.cells z33 32)) := by
  unfold execOp
  rw [ho]
  simp only [z33_ne, z33_run, go_sem]
  go_simp
  first | rfl | exact ⟨rfl, rfl⟩
theorem built_T1 (s : List Nat) (hl : s.length = 32) : Tryd.prog.built 32 [(0, .agg (celB s).toArray)] = some (trC s 0) := by
  match s, hl with
  | [a0, a1, a2, a3, a4, a5, a6, a7, a8, a9, a10, a11, a12, a13, a14, a15, a16, a17, a18, a19, a20, a21, a22, a23, a24, a25, a26, a27, a28, a29, a30, a31], _ => (show _ = _); kernel_rfl
theorem built_T2 (s : List Nat) (c : Nat) (hl : s.length = 32) : Tryd.prog.built 32 [(0, .agg (celB s).toArray), (1, .int .u64 (c : Int))] = some (trC s c) := by
  match s, hl with
  | [a0, a1, a2, a3, a4, a5, a6, a7, a8, a9, a10, a11, a12, a13, a14, a15, a16, a17, a18, a19, a20, a21, a22, a23, a24, a25, a26, a27, a28, a29, a30, a31], _ => (show _ = _); kernel_rfl
theorem exec_buildT1 {x : Operand} (s : List Nat) (hl : s.length = 32) (ho : o.op = .build 32 #[(0, x)]) (hx : ev x = .agg (celB s).toArray) (w : World) :
    (execOp ev o).run Tryd.prog w = .ok (.value (.agg (trC s 0))) w := by
  unfold execOp
  rw [ho]
  simp only [List.map_toArray, List.map_cons, List.map_nil, hx, Sem.run_bind]
  rw [run_build w 32 #[(0, .agg (celB s).toArray)] (trC s 0) (built_T1 s hl)]
  rfl
theorem exec_buildT2 {x y : Operand} (s : List Nat) (c : Nat) (hl : s.length = 32) (ho : o.op = .build 32 #[(0, x), (1, y)]) (hx : ev x = .agg (celB s).toArray) (hy : ev y = .int .u64 (c : Int)) (w : World) :
    (execOp ev o).run Tryd.prog w = .ok (.value (.agg (trC s c))) w := by
  unfold execOp
  rw [ho]
  simp only [List.map_toArray, List.map_cons, List.map_nil, hx, hy, Sem.run_bind]
  rw [run_build w 32 #[(0, .agg (celB s).toArray), (1, .int .u64 (c : Int))] (trC s c) (built_T2 s c hl)]
  rfl
/-- len of a string -/
theorem exec_lenS {x : Operand} (s : ByteArray) (ho : o.op = .call { callee := .builtin .len, args := #[x], argTypes := #[9] }) (hx : ev x = .string s) (w : World) :
    (execOp ev o).run Tryd.prog w = .ok (.value (.int .i64 (s.size : Int))) w := by
  unfold execOp
  simp only [ho]
  go_simp
end
/-- the bytes of a string -/
def bytS (s : ByteArray) : List Nat := s.data.toList.map (·.toNat)
theorem bytS_length (s : ByteArray) : (bytS s).length = s.size := by unfold bytS; rw [List.length_map]; rfl
theorem bytS_lt (s : ByteArray) : ∀ x ∈ bytS s, x < 256 := by
  intro x hx
  unfold bytS at hx
  obtain ⟨b, _, rfl⟩ := List.mem_map.1 hx
  exact b.toNat_lt
theorem celB_bytS (s : ByteArray) : celB (bytS s) = s.data.toList.map fun b => Value.int .u8 b.toNat := by
  unfold celB bytS
  rw [List.map_map]
  rfl
/-- []byte(s) -/
theorem convS_run {ev : Operand → Value} {o : Oper} {x : Operand} (s : ByteArray) (hs : s.size ≤ 1000) (ho : o.op = .convert 9 22 x) (hx : ev x = .string s) (w : World) :
    ∃ c W, (execOp ev o).run Tryd.prog w = .ok (.value (.slice (some ⟨w.heap.size, 0, none⟩) s.size c)) W ∧ Sb W (some ⟨w.heap.size, 0, none⟩) s.size c (bytS s) ∧ Below w.heap.size w W := by
  have h := run_bytes_of_string (P := Tryd.prog) w 9 22 5 s Tryd.underlying9 Tryd.underlying22 Tryd.underlying5
  have h1 := grownCap_ge w s.size 0 5
  have h2 := grownCap_le_maxLen w s.size 0 5 (by unfold maxLen; omega)
  unfold maxLen at h2
  generalize grownCap w s.size 0 5 = c at *
  refine ⟨c, w.drew.alloc (.cells (bytesRow s c) 5 ((bytesRow s c).size, (bytesRow s c).size + 1)), ?_, ⟨(bytS_length s).symm, h1, by omega, (fun e => by cases e), bytS_lt s, fun i z hz => ⟨_, rfl, ?_⟩⟩, (Below.refl w.heap.size w).drew.alloc (Nat.le_refl _) _⟩
  · unfold execOp
    simp only [ho, hx, Sem.run_bind, h]
    rfl
  · have hi := (List.getElem?_eq_some_iff.1 hz).1
    rw [ad_base]
    have hg : (w.drew.alloc (.cells (bytesRow s c) 5 ((bytesRow s c).size, (bytesRow s c).size + 1))).heap[w.heap.size]? = some (.cells (bytesRow s c) 5 ((bytesRow s c).size, (bytesRow s c).size + 1)) := heap_new w.drew _
    simp only [World.cell?, hg]
    unfold bytesRow
    rw [if_neg (by simp), Array.getElem?_append_left (by rw [Array.size_map]; rw [bytS_length] at hi; exact hi)]
    have hb := celB_get hz
    rw [celB_bytS] at hb
    rw [← List.getElem?_toArray] at hb
    simpa using hb
section
variable {P : Program} {Q : Exit → Act → World → Prop} {ops : Array Oper}
theorem wpList_convS {rest : List Oper} {o : Oper} {a : Act} {w : World} {x : Operand} (hw : Region.wanted o (yielded ops a.tmps) = true) (s : ByteArray) (hs : s.size ≤ 1000) (ho : o.op = .convert 9 22 x) (hx : a.eval x = .string s)
    (h : ∀ b c W, w.heap.size ≤ b → Sb W (some ⟨b, 0, none⟩) s.size c (bytS s) → Below w.heap.size w W → wpList Tryd.prog ops Q rest (a.put o.dst (.slice (some ⟨b, 0, none⟩) s.size c)) W) : wpList Tryd.prog ops Q (o :: rest) a w := by
  obtain ⟨c, W, hr, hsb, hb⟩ := convS_run (ev := a.eval) s hs ho hx w
  exact wpList_run hw _ _ hr (h _ c W (Nat.le_refl _) hsb hb)
/-- []byte("..") of a constant: a row and its mark -/
theorem wpList_constB {rest : List Oper} {o1 o2 : Oper} {a : Act} {w : World} (cs : List Nat) (n : Nat) (hn : cs.length = n) (hlt : ∀ z ∈ cs, z < 256) (hmax : n ≤ 1000) (hw1 : Region.wanted o1 (yielded ops a.tmps) = true)
    (hr : (execOp a.eval o1).run Tryd.prog w = .ok (.value (.slice (some ⟨w.heap.size, 0, none⟩) n n)) (w.alloc (.cells (celB cs).toArray 5)))
    (hw2 : Region.wanted o2 (yielded ops (a.put o1.dst (.slice (some ⟨w.heap.size, 0, none⟩) n n)).tmps) = true) {x : Operand} (ho2 : o2.op = .convert 22 22 x) (hx : (a.put o1.dst (.slice (some ⟨w.heap.size, 0, none⟩) n n)).eval x = .slice (some ⟨w.heap.size, 0, none⟩) n n)
    (h : ∀ b W, w.heap.size ≤ b → Sb W (some ⟨b, 0, none⟩) n n cs → Below w.heap.size w W → wpList Tryd.prog ops Q rest ((a.put o1.dst (.slice (some ⟨w.heap.size, 0, none⟩) n n)).put o2.dst (.slice (some ⟨b, 0, none⟩) n n)) W) : wpList Tryd.prog ops Q (o1 :: o2 :: rest) a w := by
  refine wpList_run hw1 _ _ hr ?_
  have h2 := Lib.run_convert_bytes_const (P := Tryd.prog) w 22 5 (celB cs).toArray n n Tryd.underlying22 Tryd.underlying5
  refine wpList_run hw2 (.slice (some ⟨w.heap.size, 0, none⟩) n n) (w.alloc (.cells (celB cs).toArray 5 ((celB cs).toArray.size, (celB cs).toArray.size + 1))) (by unfold execOp; simp only [ho2, hx, Sem.run_bind, h2]; rfl) ?_
  refine h _ _ (Nat.le_refl _) ⟨hn.symm, Nat.le_refl _, by omega, (fun e => by cases e), hlt, fun i z hz => ⟨_, rfl, ?_⟩⟩ ((Below.refl w.heap.size w).alloc (Nat.le_refl _) _)
  rw [ad_base]
  have hg : (w.alloc (.cells (celB cs).toArray 5 ((celB cs).toArray.size, (celB cs).toArray.size + 1))).heap[w.heap.size]? = some (.cells (celB cs).toArray 5 ((celB cs).toArray.size, (celB cs).toArray.size + 1)) := heap_new w _
  simp only [World.cell?, hg]
  rw [if_neg (by simp), List.getElem?_toArray]
  exact celB_get hz
end
end Go.Proofs.YtcaoajeplinopaaDoor

namespace Go.Proofs.YtcaoajeplinopaaDoor
set_option linter.unusedVariables false
set_option linter.unusedSimpArgs false
set_option maxRecDepth 8000
open Go.RowKit
attribute [local simp] z32_ne z32_run
attribute [-simp] Tryd.zeroValue30 Tryd.isAgg30 Tryd.sizeOf30
attribute [-simp] Tryd.zeroValue32 Tryd.isAgg32 Tryd.sizeOf32
attribute [local simp] z33_ne z33_run
/-- what a list of values of slices reads as -/
def ReadsP (w : World) (vs : List Value) (Ps : List (List Nat)) : Prop := vs.length = Ps.length ∧ ∀ (j : Nat) (p : List Nat), Ps[j]? = some p → ∃ B m d, vs[j]? = some (.slice B m d) ∧ Sb w B m d p
theorem ReadsP.keep {w w' : World} {vs : List Value} {Ps : List (List Nat)} (h : ReadsP w vs Ps) (hb : Below w.heap.size w w') : ReadsP w' vs Ps :=
  ⟨h.1, fun j p hp => by obtain ⟨B, m, d, e, hs⟩ := h.2 j p hp; exact ⟨B, m, d, e, hs.keep hb⟩⟩
theorem ReadsP.nil (w : World) : ReadsP w [] [] := ⟨rfl, fun j p hp => by simp at hp⟩
theorem ReadsP.cons {w : World} {vs : List Value} {Ps : List (List Nat)} {A : Option Addr} {n c : Nat} {p : List Nat} (hs : Sb w A n c p) (h : ReadsP w vs Ps) : ReadsP w (.slice A n c :: vs) (p :: Ps) :=
  ⟨by simp [h.1], fun j q hq => by
    cases j with
    | zero => simp at hq; subst hq; exact ⟨A, n, c, rfl, hs⟩
    | succ j => exact h.2 j q (by simpa using hq)⟩
theorem ReadsP.append {w : World} {vs us : List Value} {Ps Qs : List (List Nat)} (h : ReadsP w vs Ps) (k : ReadsP w us Qs) : ReadsP w (vs ++ us) (Ps ++ Qs) :=
  ⟨by rw [List.length_append, List.length_append, h.1, k.1], fun j p hp => by
    by_cases hj : j < Ps.length
    · rw [List.getElem?_append_left hj] at hp
      rw [List.getElem?_append_left (by rw [h.1]; exact hj)]
      exact h.2 j p hp
    · rw [List.getElem?_append_right (by omega)] at hp
      rw [List.getElem?_append_right (by rw [h.1]; omega), h.1]
      exact k.2 _ p hp⟩
theorem ReadsP.pb {w : World} {vs : List Value} {Ps : List (List Nat)} {g : Nat} {t : TypeId} {n : Nat} (h : ReadsP w vs Ps) (hg : w.heap[g]? = some (.cells vs.toArray t (0, 0))) (hn : n = Ps.length) (hl : n ≤ 1000) : Pb w (some ⟨g, 0, none⟩) n n Ps :=
  Pb.row hg hn (Nat.le_refl _) (by omega) h.2
/-- append(s, t...) of two literals of byte slices: a new row -/
theorem run_appendLP {w : World} {ty : TypeId} (g h n k : Nat) (vs us : List Value) (Ps Qs : List (List Nat)) (hv : ReadsP w vs Ps) (hu : ReadsP w us Qs) (hg : w.heap[g]? = some (.cells vs.toArray 22 (0, 0))) (hh : w.heap[h]? = some (.cells us.toArray 22 (0, 0)))
    (hn : vs.length = n) (hk : us.length = k) (hk1 : 1 ≤ k) (hnk : n + k ≤ 100) :
    ∃ c w', (Builtin.append_ #[89, 89] ty #[.slice (some ⟨g, 0, none⟩) n n, .slice (some ⟨h, 0, none⟩) k k]).run Tryd.prog w = .ok (.slice (some ⟨w.heap.size, 0, none⟩) (n + k) c) w' ∧ Below w.heap.size w w' ∧ Pb w' (some ⟨w.heap.size, 0, none⟩) (n + k) c (Ps ++ Qs) := by
  obtain ⟨i, hi, hz, hs2, hb⟩ := info_parts sl_info
  have hone : ∀ (l : List Value) (Ls : List (List Nat)), ReadsP w l Ls → ∀ u ∈ l, u.oneCell' = true := fun l Ls hl u hu => by
    obtain ⟨j, hj⟩ := List.getElem?_of_mem hu
    have hlt := (List.getElem?_eq_some_iff.1 hj).1
    obtain ⟨B, m, d, e, _⟩ := hl.2 j (Ls[j]'(by have := hl.1; omega)) (List.getElem?_eq_getElem _)
    rw [hj] at e
    injection e with e
    subst e
    rfl
  have hsrc : Src Tryd.prog i.size 89 (.slice (some ⟨h, 0, none⟩) k k) k us w := Src.ofSlice w Tryd.underlying89 ⟨h, 0, none⟩ k k us (by rw [hs2, hk, Nat.mul_one]) (fun j u hj => by
    rw [ad_base]
    exact cells_at hh j (by simpa using hj)) (hone us Qs hu)
  have ho3 : (Builtin.firstCells i.size n (Value.slice (some ⟨g, 0, none⟩) n n)).run Tryd.prog w.drew = .ok vs.toArray w.drew := run_firstCells_some w.drew i.size n ⟨g, 0, none⟩ n n vs (by rw [hn, hs2, Nat.mul_one]) fun j u hj => by
    rw [ad_base]
    exact cells_at (W := w.drew) hg j (by simpa using hj)
  have hr := run_append_grow_src (P := Tryd.prog) w 89 89 ty 22 i (.slice none 0 0) Tryd.underlying89 hi hz (some ⟨g, 0, none⟩) n n vs ho3 (.slice (some ⟨h, 0, none⟩) k k) k us hsrc (by omega) (by omega)
    (by rw [hb]; exact growslice_fits (by omega) (by omega))
  have hgc := grownCap_ge w (n + k) n 22
  have hgm := grownCap_le_maxLen w (n + k) n 22 (by unfold maxLen; omega)
  unfold maxLen at hgm
  have hbel : Below w.heap.size w (w.drew.alloc (.cells ((vs ++ us).toArray ++ Builtin.zeroCells (Value.slice none 0 0).cells (grownCap w (n + k) n 22 - (n + k))) 22)) := (Below.refl _ _).drew.alloc (Nat.le_refl _) _
  refine ⟨_, _, hr, hbel, ?_⟩
  obtain ⟨zs, hzs⟩ : ∃ zs : List Value, Builtin.zeroCells (Value.slice none 0 0).cells (grownCap w (n + k) n 22 - (n + k)) = zs.toArray := ⟨_, (Array.toArray_toList).symm⟩
  rw [hzs] at hbel ⊢
  rw [List.append_toArray] at hbel ⊢
  refine Pb.row (heap_new w.drew _) (by rw [List.length_append, ← hv.1, ← hu.1, hn, hk]) hgc (by omega) fun j p hp => ?_
  have hlt := (List.getElem?_eq_some_iff.1 hp).1
  obtain ⟨B', m', d', h1, h2⟩ := (hv.append hu).2 j p hp
  exact ⟨B', m', d', by rw [List.getElem?_append_left (by rw [(hv.append hu).1]; exact hlt)]; exact h1, h2.keep hbel⟩
theorem hOp_appendLP {o : Oper} {a : Act} {w : World} {K : Value → World → Prop} (s x : Operand)
    (ho : o.op = .call { callee := .builtin .append, args := #[s, x], argTypes := #[89, 89] }) (g h n k : Nat) (vs us : List Value) (Ps Qs : List (List Nat)) (hs : a.eval s = .slice (some ⟨g, 0, none⟩) n n) (hx : a.eval x = .slice (some ⟨h, 0, none⟩) k k) (hv : ReadsP w vs Ps) (hu : ReadsP w us Qs) (hg : w.heap[g]? = some (.cells vs.toArray 22 (0, 0))) (hh : w.heap[h]? = some (.cells us.toArray 22 (0, 0)))
    (hn : vs.length = n) (hk : us.length = k) (hk1 : 1 ≤ k) (hnk : n + k ≤ 100)
    (hK : ∀ b c w', Below w.heap.size w w' → Pb w' (some ⟨b, 0, none⟩) (n + k) c (Ps ++ Qs) → K (.slice (some ⟨b, 0, none⟩) (n + k) c) w') : hOp Tryd.prog o K a w := by
  obtain ⟨c, w', hr, hb, hp⟩ := run_appendLP (ty := o.type) g h n k vs us Ps Qs hv hu hg hh hn hk hk1 hnk
  unfold hOp execOp
  simp only [ho, resolve, invoke, builtin, Sem.run_bind, Sem.run_pure, Result.andThen_ok, List.map_toArray, List.map_cons, List.map_nil, hs, hx, hr]
  exact hK _ c w' hb hp
section
variable {ev : Operand → Value} {o : Oper}
theorem exec_sliceD {x : Operand} (g : Nat) (w : World) (ho : o.op = .slice 30 x none none none) (hx : ev x = .pointer (some ⟨g, 0, none⟩)) : (execOp ev o).run Tryd.prog w = .ok (.value (.slice (some ⟨g, 0, none⟩) 32 32)) w := by
  unfold execOp
  simp only [ho, hx]
  go_simp
theorem exec_cvtL {x : Operand} (n : Nat) (hn : n ≤ 255) (w : World) (ho : o.op = .convert 3 5 x) (hx : ev x = .int .i64 (n : Int)) : (execOp ev o).run Tryd.prog w = .ok (.value (.int .u8 (n : Int))) w := by
  have h : IntKind.u8.wrap (n : Int) = (n : Int) := by rw [IntKind.wrap_u8]; omega
  unfold execOp
  simp only [ho, hx]
  go_simp
end
theorem sb_cells2 {w : World} {b : Nat} {t : TypeId} {u v : Nat} (hu : u < 256) (hv : v < 256) (h : w.heap[b]? = some (.cells #[.int .u8 (u : Int), .int .u8 (v : Int)] t (0, 0))) : Sb w (some ⟨b, 0, none⟩) 2 2 [u, v] :=
  RowB.all (t := t) (bs := [u, v]) h (fun x hx => by simp at hx; rcases hx with rfl | rfl <;> assumption) rfl (Nat.le_refl _) (by omega)
attribute [local irreducible] wpList
set_option maxHeartbeats 2000000 in
theorem tagged_any (s : List Nat) (mk : Nat) (lb : ByteArray) (r k : Nat) (us : List Value) (Qs : List (List Nat)) (w : World) (hl : s.length = 32) (hsb : ∀ x ∈ s, x < 256) (hmk : mk < 256) (hlb : lb.size ≤ 200) (hr : w.heap[r]? = some (.cells us.toArray 22 (0, 0))) (hk : us.length = k) (hk1 : 1 ≤ k) (hk2 : k ≤ 4) (hu : ReadsP w us Qs) (hQ : sumL Qs ≤ 100000000000000) (hG : Gl w) (R : List Nat) (hR : shaN (s ++ ([mk, lb.size] ++ (bytS lb ++ Qs.flatten))) = R) :
    Calls Tryd.prog 46 #[.agg (celB s).toArray, .int .u8 (mk : Int), .string lb, .slice (some ⟨r, 0, none⟩) k k] w fun e w' => e = .returned (.agg (celB R).toArray) ∧ Below w.heap.size w w' := by
  have hRl : R.length = 32 := by rw [← hR]; exact shaN_length _
  have HR := Lib.hid hR
  have HU := Lib.hid hu
  have HK := Lib.hid hk
  have HSB := Lib.hid hsb
  have HL := Lib.hid hl
  have HQ := Lib.hid hQ
  clear hR hu hk hsb hl hQ
  go_enter Tryd.func46, Tryd.ntmps46
  go_upto_region 1 with fail
  refine wp_named2 (fun V1 hb g0 g1 hlt => ?_)
  have B0 := Lib.hid hb
  have F4 : Hid (RowB V1 30 w.heap.size s) := Lib.hid g0
  have F8 : Hid (RowB V1 30 (w.heap.size + 1) (List.replicate 32 0)) := Lib.hid g1
  have FR := Lib.hid (heap_keep hr hb)
  have HU1 := Lib.hid (HU.out.keep hb)
  have HG1 := Lib.hid (hG.keep hb)
  clear hb g0 g1 hr hG HU
  refine wp_region_lit ?_
  refine wpList_run (by kernel_rfl) (.slice (some ⟨w.heap.size, 0, none⟩) 32 32) V1 (exec_sliceD w.heap.size V1 rfl rfl) ?_
  simp only [Act.put, List.setIfInBounds_toArray, List.set_cons_zero, List.set_cons_succ]
  refine wpList_run (by kernel_rfl) (.int .u8 (mk : Int)) V1 rfl ?_
  simp only [Act.put, List.setIfInBounds_toArray, List.set_cons_zero, List.set_cons_succ]
  refine wpList_run (by kernel_rfl) (.string lb) V1 rfl ?_
  simp only [Act.put, List.setIfInBounds_toArray, List.set_cons_zero, List.set_cons_succ]
  refine wpList_run (by kernel_rfl) (.int .i64 (lb.size : Int)) V1 (exec_lenS lb rfl rfl V1) ?_
  simp only [Act.put, List.setIfInBounds_toArray, List.set_cons_zero, List.set_cons_succ]
  refine wpList_run (by kernel_rfl) (.int .u8 (lb.size : Int)) V1 (exec_cvtL lb.size (by omega) V1 rfl rfl) ?_
  simp only [Act.put, List.setIfInBounds_toArray, List.set_cons_zero, List.set_cons_succ]
  refine wpList_mk (by kernel_rfl) #[.int .u8 (mk : Int), .int .u8 (lb.size : Int)] 5 2 2 (run_buildB2 mk lb.size rfl rfl rfl V1) ?_
  intro b15 V2 hge h0 hb
  have B1 := Lib.hid hb
  have F15 := Lib.hid (sb_cells2 hmk (by omega) h0)
  clear hge h0 hb
  simp only [Act.put, List.setIfInBounds_toArray, List.set_cons_zero, List.set_cons_succ]
  refine wpList_run (by kernel_rfl) (.string lb) V2 rfl ?_
  simp only [Act.put, List.setIfInBounds_toArray, List.set_cons_zero, List.set_cons_succ]
  refine wpList_convS (by kernel_rfl) lb (by omega) rfl rfl ?_
  intro b17 c17 V3 hge h0 hb
  have B2 := Lib.hid hb
  have F17 := Lib.hid h0
  clear hge h0 hb
  simp only [Act.put, List.setIfInBounds_toArray, List.set_cons_zero, List.set_cons_succ]
  refine wpList_mk (by kernel_rfl) #[.slice (some ⟨w.heap.size, 0, none⟩) 32 32, .slice (some ⟨b15, 0, none⟩) 2 2, .slice (some ⟨b17, 0, none⟩) lb.size c17] 22 3 3 (run_buildP3 _ _ _ _ _ _ _ _ _ rfl rfl rfl rfl V3) ?_
  intro b18 V4 hge h0 hb
  have B3 := Lib.hid hb
  have F18 := Lib.hid h0
  clear hge h0 hb
  have C13 := Lib.hid (bel_step B1.out (bel_step B2.out B3.out))
  have C23 := Lib.hid (bel_step B2.out B3.out)
  have HV : Hid (ReadsP V4 [.slice (some ⟨w.heap.size, 0, none⟩) 32 32, .slice (some ⟨b15, 0, none⟩) 2 2, .slice (some ⟨b17, 0, none⟩) lb.size c17] [s, [mk, lb.size], bytS lb]) :=
    Lib.hid (.cons (((F4.out.keep C13.out).all HSB.out HL.out.symm (Nat.le_refl _) (by omega))) (.cons (F15.out.keep C23.out) (.cons (F17.out.keep B3.out) (.nil _))))
  simp only [Act.put, List.setIfInBounds_toArray, List.set_cons_zero, List.set_cons_succ]
  refine wpList_run (by kernel_rfl) (.slice (some ⟨b18, 0, none⟩) 3 3) V4 rfl ?_
  simp only [Act.put, List.setIfInBounds_toArray, List.set_cons_zero, List.set_cons_succ]
  refine wpList_nil ?_
  go_upto_region 2 with fail
  refine wp_region_lit ?_
  refine wpList_run (by kernel_rfl) (.slice (some ⟨b18, 0, none⟩) 3 3) V4 rfl ?_
  simp only [Act.put, List.setIfInBounds_toArray, List.set_cons_zero, List.set_cons_succ]
  refine wpList_run (by kernel_rfl) (.slice (some ⟨r, 0, none⟩) k k) V4 rfl ?_
  simp only [Act.put, List.setIfInBounds_toArray, List.set_cons_zero, List.set_cons_succ]
  refine wpList_op (by kernel_rfl) (hOp_appendLP (.tmp 19) (.tmp 20) rfl b18 r 3 k _ us _ Qs rfl rfl HV.out (HU1.out.keep C13.out) F18.out (heap_keep FR.out C13.out) rfl HK.out hk1 (by omega) ?_)
  intro b21 c21 V5 hb hp
  have B4 := Lib.hid hb
  have HP := Lib.hid hp
  clear hb hp
  simp only [Act.put, List.setIfInBounds_toArray, List.set_cons_zero, List.set_cons_succ]
  have hsum : sumL ([s, [mk, lb.size], bytS lb] ++ Qs) = 34 + lb.size + sumL Qs := by
    unfold sumL
    have := HL.out
    simp [bytS_length]
    omega
  have HS := Lib.hid hsum
  refine wpList_call (by kernel_rfl) 45 Tryd.func45 (by kernel_rfl) (by kernel_rfl) _ _ #[.slice (some ⟨b21, 0, none⟩) (3 + k) c21] rfl (by kernel_rfl) ?_
  refine (tjoin_any _ _ _ _ V5 HP.out (by omega) (by rw [hsum]; have := HQ.out; omega)).mono ?_
  rintro e V6 ⟨C, f, rfl, hs, hb⟩
  have B5 := Lib.hid hb
  have HJ := Lib.hid hs
  clear hb hs hsum
  refine ⟨_, rfl, ?_⟩
  simp only [Act.put, List.setIfInBounds_toArray, List.set_cons_zero, List.set_cons_succ]
  have C15 := Lib.hid (bel_step C13.out (bel_step B4.out B5.out))
  refine wpList_call (by kernel_rfl) 44 Tryd.func44 (by kernel_rfl) (by kernel_rfl) _ _ #[.slice C (sumL ([s, [mk, lb.size], bytS lb] ++ Qs)) f] rfl (by kernel_rfl) ?_
  refine (sum_any C _ f _ V6 HJ.out (by rw [HS.out]; have := HQ.out; omega) (HG1.out.keep C15.out) R (by rw [← HR.out]; simp)).mono ?_
  rintro e V7 ⟨rfl, hb⟩
  have B6 := Lib.hid hb
  clear hb
  refine ⟨_, rfl, ?_⟩
  simp only [Act.put, List.setIfInBounds_toArray, List.set_cons_zero, List.set_cons_succ]
  have C16 := Lib.hid (bel_step C15.out B6.out)
  have C07 := Lib.hid (bel_step B0.out C16.out)
  have H8 := Lib.hid (F8.out.keep C16.out)
  refine wpList_run0 (by kernel_rfl) _ (exec_storeD hRl List.length_replicate H8.out rfl rfl rfl) ?_
  simp only [Act.put, List.setIfInBounds_toArray, List.set_cons_zero, List.set_cons_succ]
  refine wpList_nil ?_
  go_wp2_with fail
  refine bodyPost_ret (v := .agg (celB R).toArray) ?_ rfl ⟨rfl, bel_setRow C07.out (by omega) _⟩
  exact results_cell_row rfl _ _ (w.heap.size + 1) 30 _ (0, 0) _ rfl (H8.out.row R) Tryd.underlying30 rfl (dig_size hRl)
end Go.Proofs.YtcaoajeplinopaaDoor

namespace Go.Proofs.YtcaoajeplinopaaDoor
set_option linter.unusedVariables false
set_option linter.unusedSimpArgs false
set_option maxRecDepth 8000
open Go.RowKit
section
variable {P : Program} {Q : Exit → Act → World → Prop}
/-- whose slot is t -/
def ownF (l : List Oper) (t : Nat) : Option Nat := l.findIdx? fun o => o.dst == some t
theorem ownF_spec {l : List Oper} {t j : Nat} (h : ownF l t = some j) : ∃ o, l[j]? = some o ∧ o.dst = some t := by
  unfold ownF at h
  obtain ⟨hl, hp, _⟩ := List.findIdx?_eq_some_iff_getElem.1 h
  exact ⟨_, List.getElem?_eq_getElem hl, by simpa using hp⟩
def dstOK (l : List Oper) (n : Nat) : Bool := l.zipIdx.all fun x => match x.1.dst with | some d => Nat.blt d n && (ownF l d == some x.2) | none => true
theorem dstOK_spec {l : List Oper} {n i : Nat} {o : Oper} {d : Tmp} (h : dstOK l n = true) (hi : l[i]? = some o) (hd : o.dst = some d) : d < n ∧ ownF l d = some i := by
  unfold dstOK at h
  have h1 := List.all_eq_true.1 h (o, i) (List.mem_zipIdx_iff_getElem?.2 hi)
  simp only [hd, Bool.and_eq_true] at h1
  exact ⟨Nat.lt_of_succ_le (Nat.le_of_ble_eq_true h1.1), by simpa using h1.2⟩
def depB (o : Oper) (k : Nat) : Bool := o.after.any fun e => Region.binds .any e && (e.on == k)
def depsOK (l : List Oper) : Bool := l.all fun o => o.op.operands.all fun x => match x with | .tmp t => (match ownF l t with | some j => depB o j | none => true) | _ => true
/-- the frame when the operations of m are done -/
def frameF (l : List Oper) (a0 : Act) (m : Nat → Bool) (vs : Nat → Value) : Act := { a0 with tmps := a0.tmps.mapIdx fun t x => match ownF l t with | some j => if m j then vs j else x | none => x }
theorem frameF_none {l : List Oper} {a0 : Act} {m : Nat → Bool} (hm : ∀ i, m i = false) (vs : Nat → Value) : frameF l a0 m vs = a0 := by
  unfold frameF
  have : (a0.tmps.mapIdx fun t x => match ownF l t with | some j => if m j then vs j else x | none => x) = a0.tmps := by
    refine Array.ext (by simp) fun i h1 h2 => ?_
    rw [Array.getElem_mapIdx]
    cases ownF l i with
    | none => rfl
    | some j => simp [hm]
  rw [this]
theorem frameF_put {l : List Oper} {a0 : Act} {m m' : Nat → Bool} {vs vs' : Nat → Value} {i : Nat} {o : Oper} {v : Value} (hd : dstOK l a0.tmps.size = true) (hi : l[i]? = some o) (hm : ∀ j, j ≠ i → m' j = m j) (hmi : m' i = true) (hv : ∀ j, j ≠ i → vs' j = vs j) (hvi : vs' i = v) :
    (frameF l a0 m vs).put o.dst v = frameF l a0 m' vs' := by
  cases hod : o.dst with
  | none =>
    have hne : ∀ t j, ownF l t = some j → j ≠ i := fun t j h e => by
      obtain ⟨o', h1, h2⟩ := ownF_spec h
      subst e
      rw [hi] at h1
      injection h1 with h1
      subst h1
      rw [hod] at h2
      cases h2
    show frameF l a0 m vs = _
    unfold frameF
    congr 1
    refine Array.ext (by simp) fun t h1 h2 => ?_
    rw [Array.getElem_mapIdx, Array.getElem_mapIdx]
    cases ho : ownF l t with
    | none => rfl
    | some j => simp [hm j (hne t j ho), hv j (hne t j ho)]
  | some d =>
    obtain ⟨hdn, hown⟩ := dstOK_spec hd hi hod
    have e : (a0.tmps.mapIdx fun t x => match ownF l t with | some j => if m j then vs j else x | none => x).setIfInBounds d v = a0.tmps.mapIdx fun t x => match ownF l t with | some j => if m' j then vs' j else x | none => x := by
      refine Array.ext_getElem? fun t => ?_
      rw [Array.getElem?_setIfInBounds, Array.getElem?_mapIdx, Array.getElem?_mapIdx]
      by_cases ht : d = t
      · subst ht
        simp [hown, hmi, hvi, hdn]
      · rw [if_neg ht]
        cases ho : ownF l t with
        | none => rfl
        | some j =>
          have hji : j ≠ i := fun e => by
            obtain ⟨o', h3, h4⟩ := ownF_spec ho
            subst e
            rw [hi] at h3
            injection h3 with h3
            subst h3
            rw [hod] at h4
            injection h4 with h4
            exact ht h4
          simp [hm j hji, hv j hji]
    exact congrArg (fun t => ({ a0 with tmps := t } : Act)) e
theorem frameF_eval {l : List Oper} {a0 : Act} {m m' : Nat → Bool} {vs : Nat → Value} {x : Operand} (h : ∀ t j, x = .tmp t → ownF l t = some j → m j = m' j) : (frameF l a0 m vs).eval x = (frameF l a0 m' vs).eval x := by
  cases x with
  | tmp t =>
    show (frameF l a0 m vs).tmps.getD t undef = (frameF l a0 m' vs).tmps.getD t undef
    unfold frameF
    have e : ∀ k : Nat → Bool, (a0.tmps.mapIdx fun t x => match ownF l t with | some j => if k j then vs j else x | none => x).getD t undef = match ownF l t with | some j => if k j then (if t < a0.tmps.size then vs j else undef) else a0.tmps.getD t undef | none => a0.tmps.getD t undef := fun k => by
      by_cases ht : t < a0.tmps.size
      · cases ho : ownF l t with
        | none => simp [Array.getD, ht, ho]
        | some j => simp [Array.getD, ht, ho]
      · cases ho : ownF l t with
        | none => simp [Array.getD, ht]
        | some j => simp [Array.getD, ht]
    rw [e m, e m']
    cases ho : ownF l t with
    | none => rfl
    | some j => simp only [h t j rfl ho]
  | _ => rfl
/-- the frame of the text's own order -/
def putsT (vs : Nat → Value) : List Oper → Nat → Act → Act
  | [], _, a => a
  | o :: l, k, a => putsT vs l (k + 1) (a.put o.dst (vs k))
theorem putsT_frame {l : List Oper} {a0 : Act} {vs : Nat → Value} (hd : dstOK l a0.tmps.size = true) : ∀ (r : List Oper) (k : Nat), (∀ j o, r[j]? = some o → l[k + j]? = some o) → putsT vs r k (frameF l a0 (fun j => decide (j < k)) vs) = frameF l a0 (fun j => decide (j < k + r.length)) vs
  | [], k, _ => rfl
  | o :: r, k, h => by
    have hk : l[k]? = some o := h 0 o rfl
    unfold putsT
    rw [frameF_put (m' := fun j => decide (j < k + 1)) (vs' := vs) hd hk (fun j hj => by simp only [decide_eq_decide]; omega) (by simp) (fun _ _ => rfl) rfl, putsT_frame hd r (k + 1) (fun j o' hj => by
      have := h (j + 1) o' (by simpa using hj)
      rwa [show k + 1 + j = k + (j + 1) by omega])]
    congr 1
    funext j
    simp only [List.length_cons, decide_eq_decide]
    omega
/-- what is to be shown of each operation -/
def oblF (P : Program) (I : World → Prop) (F : Nat → Value → World → Prop) : List Oper → Nat → ((Nat → Value) → Act) → Prop
  | [], _, _ => True
  | o :: r, i, A => (∀ vs W, I W → (∀ k, depB o k = true → F k (vs k) W) → hOp P o (fun v W' => I W' ∧ F i v W' ∧ ∀ j u, j ≠ i → F j u W → F j u W') (A vs) W) ∧ oblF P I F r (i + 1) (fun vs => (A vs).put o.dst (vs i))
theorem oblF_get {I : World → Prop} {F : Nat → Value → World → Prop} : ∀ (l : List Oper) (k : Nat) (A : (Nat → Value) → Act), oblF P I F l k A → ∀ i o, l[i]? = some o → ∀ vs W, I W → (∀ j, depB o j = true → F j (vs j) W) →
    hOp P o (fun v W' => I W' ∧ F (k + i) v W' ∧ ∀ j u, j ≠ k + i → F j u W → F j u W') (putsT vs (l.take i) k (A vs)) W
  | [], _, _, _, i, o, hi => by simp at hi
  | x :: r, k, A, h, 0, o, hi => by
    obtain rfl : x = o := by simpa using hi
    exact h.1
  | x :: r, k, A, h, i + 1, o, hi => by
    have := oblF_get r (k + 1) _ h.2 i o (by simpa using hi)
    rw [show k + (i + 1) = k + 1 + i by omega]
    exact this
theorem hOp_frame {o : Oper} {K : Value → World → Prop} {a a' : Act} {w : World} (hs : ∀ cs b, o.op ≠ .select cs b) (h : ∀ x ∈ o.op.operands, a.eval x = a'.eval x) (hh : hOp P o K a' w) : hOp P o K a w := by
  unfold hOp at *
  rwa [execOp_congr o hs h]
theorem wp_free_any {I : World → Prop} {F : Nat → Value → World → Prop} {a0 : Act} {l : List Oper} (hx : LexOK l.toArray) (hd : dstOK l a0.tmps.size = true) (hp : depsOK l = true) (hg : (l.all fun o => o.guard.isNone) = true) (ho : oblF P I F l 0 (fun _ => a0))
    (hfin : ∀ vs W, I W → (∀ i, i < l.length → F i (vs i) W) → Q .normal (putsT vs l 0 a0) W) : ∀ (fuel : Nat) (listed : Array Bool) (vs : Nat → Value) (W : World), listed.size = l.length → ((List.range l.length).filter fun i => !listed.getD i true).length ≤ fuel → I W → (∀ i, listed.getD i false = true → F i (vs i) W) →
    wpAny P .any l.toArray Q fuel listed (frameF l a0 (fun j => listed.getD j false) vs) W := by
  have h0 : frameF l a0 (fun j => decide (j < 0)) = fun _ => a0 := by funext vs; exact frameF_none (fun i => by simp) vs
  have hall : ∀ (listed : Array Bool), listed.size = l.length → Region.ready .any l.toArray listed = [] → ∀ j, j < l.length → listed.getD j false = true := fun listed hsz hr j => by
    induction j using Nat.strongRecOn with
    | _ j ih =>
      intro hj
      cases hl : listed.getD j false with
      | true => rfl
      | false =>
        have hmem : j ∈ Region.ready .any l.toArray listed := mem_ready.2 ⟨getD_in (by omega) hl, l[j], by simp [hj], fun e he hb => by
          have := hx.edge j l[j] (by simp [hj]) e he hb
          exact ih e.on this (by omega)⟩
        rw [hr] at hmem
        cases hmem
  intro fuel
  induction fuel with
  | zero =>
    intro listed vs W hsz hc hI hF
    have hr : Region.ready .any l.toArray listed = [] := by
      refine List.eq_nil_iff_forall_not_mem.2 fun j hj => ?_
      obtain ⟨h1, o, h2, _⟩ := mem_ready.1 hj
      have hjl : j < l.length := by have := (Array.getElem?_eq_some_iff.1 h2).1; simpa using this
      have : j ∈ (List.range l.length).filter fun i => !listed.getD i true := List.mem_filter.2 ⟨List.mem_range.2 hjl, by rw [h1]; rfl⟩
      rw [List.eq_nil_of_length_eq_zero (Nat.le_zero.1 hc)] at this
      cases this
    refine wpAny_done hr ?_ 0
    have hA : frameF l a0 (fun j => listed.getD j false) vs = putsT vs l 0 a0 := by
      have h1 := putsT_frame (vs := vs) hd l 0 (fun j o h => by rwa [Nat.zero_add])
      rw [h0] at h1
      rw [h1, Nat.zero_add]
      refine congrArg (fun m => frameF l a0 m vs) ?_
      funext j
      by_cases hj : j < l.length
      · rw [hall listed hsz hr j hj, decide_eq_true hj]
      · rw [decide_eq_false hj]
        simp [show listed.size ≤ j by omega]
    rw [hA]
    exact hfin vs W hI fun i hi => hF i (hall listed hsz hr i hi)
  | succ fuel ih =>
    intro listed vs W hsz hc hI hF
    by_cases hr : Region.ready .any l.toArray listed = []
    · refine wpAny_done hr ?_ _
      have hA : frameF l a0 (fun j => listed.getD j false) vs = putsT vs l 0 a0 := by
        have h1 := putsT_frame (vs := vs) hd l 0 (fun j o h => by rwa [Nat.zero_add])
        rw [h0] at h1
        rw [h1, Nat.zero_add]
        refine congrArg (fun m => frameF l a0 m vs) ?_
        funext j
        by_cases hj : j < l.length
        · rw [hall listed hsz hr j hj, decide_eq_true hj]
        · rw [decide_eq_false hj]
          simp [show listed.size ≤ j by omega]
      rw [hA]
      exact hfin vs W hI fun i hi => hF i (hall listed hsz hr i hi)
    · refine wpAny_all rfl hr fun i hi => ?_
      obtain ⟨h1, o, h2, h3⟩ := mem_ready.1 hi
      have hil : i < l.length := by have := (Array.getElem?_eq_some_iff.1 h2).1; simpa using this
      have hlo : l[i]? = some o := by simpa using h2
      have hsel := Region.noSelect_spec hx.sel i o
      have hob := oblF_get l 0 _ ho i o hlo vs W hI (fun j hj => by
        unfold depB at hj
        obtain ⟨e, he, hb⟩ := Array.any_eq_true'.1 hj
        rw [Bool.and_eq_true] at hb
        obtain rfl : e.on = j := by simpa using hb.2
        exact hF _ (h3 e he hb.1))
      have hgo : o.guard = none := by
        have := List.all_eq_true.1 hg o (List.mem_of_getElem? hlo)
        simpa using this
      refine wpOp_of_hOp h2 (by unfold Region.wanted; rw [hgo]) ?_
      refine hOp_frame (fun cs b => hsel cs b h2) (a' := putsT vs (l.take i) 0 a0) (fun x hxm => ?_) (hOp_mono (fun v W' hk => ?_) hob)
      · have e1 := putsT_frame (vs := vs) hd (l.take i) 0 (fun j o' h => by
          rw [Nat.zero_add]
          have hj : j < i := by have := (List.getElem?_eq_some_iff.1 h).1; rw [List.length_take] at this; omega
          rwa [List.getElem?_take_of_lt hj] at h)
        rw [h0] at e1
        rw [e1]
        refine frameF_eval fun t j hxt hown => ?_
        have hdp := List.all_eq_true.1 hp o (List.mem_of_getElem? hlo)
        have hdx := Array.all_eq_true_iff_forall_mem.1 hdp x hxm
        subst hxt
        simp only [hown] at hdx
        unfold depB at hdx
        obtain ⟨e, he, hb⟩ := Array.any_eq_true'.1 hdx
        rw [Bool.and_eq_true] at hb
        obtain rfl : e.on = j := by simpa using hb.2
        have hlt := hx.edge i o h2 e he hb.1
        rw [h3 e he hb.1, Nat.zero_add, List.length_take, Nat.min_eq_left (by omega), decide_eq_true hlt]
      · rw [Nat.zero_add] at hk
        obtain ⟨k1, k2, k3⟩ := hk
        rw [frameF_put (m' := fun j => (listed.setIfInBounds i true).getD j false) (vs' := fun j => if j = i then v else vs j) hd hlo (fun j hj => getD_set_ne false (Ne.symm hj)) (by simp [hsz, hil]) (fun j hj => by rw [if_neg hj]) (by rw [if_pos rfl])]
        refine ih _ _ W' (by simp [hsz]) ?_ k1 fun j hj => ?_
        · have hlt := filter_lt (fun j => !listed.getD j true) (fun j => !(listed.setIfInBounds i true).getD j true) (fun j hj => by
            by_cases e : i = j
            · subst e; rw [h1]; rfl
            · rwa [getD_set_ne true e] at hj) i (by rw [h1]; rfl) (by simp [hsz, hil]) (List.range l.length) (List.mem_range.2 hil)
          omega
        · by_cases e : j = i
          · subst e
            rw [if_pos rfl]
            exact k2
          · rw [if_neg e]
            rw [getD_set_ne false (Ne.symm e)] at hj
            exact k3 j _ e (hF j hj)
/-- a drawn region whose operations do not disturb one another -/
theorem wp_free (I : World → Prop) (F : Nat → Value → World → Prop) {id : Nat} {a0 : Act} {w : World} {l : List Oper} (hm : P.follows .mixedOrders = true) (hx : LexOK l.toArray) (hd : dstOK l a0.tmps.size = true) (hp : depsOK l = true) (hg : (l.all fun o => o.guard.isNone) = true) (hI : I w.drew) (ho : oblF P I F l 0 (fun _ => a0))
    (hfin : ∀ vs W, I W → (∀ i, i < l.length → F i (vs i) W) → Q .normal (putsT vs l 0 a0) W) : (Code.region id l.toArray true).wp P Q a0 w := by
  refine wp_region_any hm ?_
  have h := wp_free_any (Q := Q) hx hd hp hg ho hfin l.length (Array.replicate l.length false) (fun _ => undef) w.drew (by simp) (Nat.le_trans (List.length_filter_le _ _) (by simp)) hI (fun i hi => by rw [getD_replicate_false] at hi; cases hi)
  rw [frameF_none (fun i => getD_replicate_false _ _)] at h
  simpa using h
end
end Go.Proofs.YtcaoajeplinopaaDoor

namespace Go.Proofs.YtcaoajeplinopaaDoor
set_option linter.unusedVariables false
set_option linter.unusedSimpArgs false
set_option maxRecDepth 8000
open Go.RowKit
attribute [local simp] z32_ne z32_run
attribute [-simp] Tryd.zeroValue30 Tryd.isAgg30 Tryd.sizeOf30
attribute [-simp] Tryd.zeroValue32 Tryd.isAgg32 Tryd.sizeOf32
attribute [local simp] z33_ne z33_run
theorem RowT.row {w : World} {g : Nat} {s0 : List Nat} {c0 : Nat} (h : RowT w g s0 c0) (s : List Nat) (c : Nat) : RowT (w.setRow g (trC s c)) g s c := by
  unfold RowT at *
  simp [World.setRow, Array.getElem?_modify, h]
theorem heap_farRow {w : World} {g k : Nat} {o : Obj} (h : w.heap[g]? = some o) (e : g ≠ k) (cs : Array Value) : (w.setRow k cs).heap[g]? = some o := by
  simp [World.setRow, Array.getElem?_modify, Ne.symm e, h]
theorem trC_set {s : List Nat} (hl : s.length = 32) (c c' : Nat) : (trC s c).setIfInBounds 32 (.int .u64 (c' : Int)) = trC s c' := by
  unfold trC
  rw [List.setIfInBounds_toArray, List.set_append_right _ _ (by rw [celB_length]; omega), celB_length, hl]
  rfl
theorem RowT.setCount {w : World} {g : Nat} {s : List Nat} {c : Nat} (h : RowT w g s c) (hl : s.length = 32) (c' : Nat) : RowT (w.setCell ⟨g, 32, none⟩ (.int .u64 (c' : Int))) g s c' := by
  have h1 := heap_setCell_at (i := 32) h (.int .u64 (c' : Int))
  unfold RowT
  rw [h1, trC_set hl]
section
variable {ev : Operand → Value} {o : Oper}
theorem exec_storeU {x y : Operand} {w : World} {t : TypeId} (g i : Nat) (cs : Array Value) (u : Value) (z : Int) (hg : w.heap[g]? = some (.cells cs t (0, 0))) (hi : cs[i]? = some u) (ho : o.op = .store 25 x y) (hx : ev x = .pointer (some ⟨g, i, none⟩)) (hy : ev y = .int .u64 z) :
    (execOp ev o).run Tryd.prog w = .ok .skip (w.setCell ⟨g, i, none⟩ (.int .u64 z)) := by
  have c0 := cells_at hg i hi
  have f0 := frozen_of_row w g i _ _ hg
  unfold execOp
  simp only [ho, hx, hy]
  go_simp
theorem exec_incU {x y : Operand} {t : TypeId} (c : Nat) (ho : o.op = .binOp .add 25 x y t) (hx : ev x = .int .u64 (c : Int)) (hy : ev y = .int .u64 1) (w : World) :
    (execOp ev o).run Tryd.prog w = .ok (.value (.int .u64 (((c + 1) % 18446744073709551616 : Nat) : Int))) w := by
  have h : IntKind.u64.wrap ((c : Int) + 1) = (((c + 1) % 18446744073709551616 : Nat) : Int) := by rw [IntKind.wrap_u64]; omega
  unfold execOp
  simp only [ho, hx, hy]
  go_simp
end
attribute [local irreducible] wpList
/-- the hash output at a count -/
def outT (s : List Nat) (mk : Nat) (lb : ByteArray) (c : Nat) : List Nat := shaN (s ++ ([mk, lb.size] ++ (bytS lb ++ leN c)))
theorem outT_length (s : List Nat) (mk : Nat) (lb : ByteArray) (c : Nat) : (outT s mk lb c).length = 32 := shaN_length _
theorem outT_lt (s : List Nat) (mk : Nat) (lb : ByteArray) (c : Nat) : ∀ x ∈ outT s mk lb c, x < 256 := shaN_lt _
set_option maxHeartbeats 4000000 in
theorem output_any (s : List Nat) (mk : Nat) (lb : ByteArray) (c : Nat) (w : World) (hl : s.length = 32) (hsb : ∀ x ∈ s, x < 256) (hc : c < 18446744073709551616) (hmk : mk < 256) (hlb : lb.size ≤ 200) (hG : Gl w) (D : List Nat) (hD : outT s mk lb c = D) (c' : Nat) (hc' : (c + 1) % 18446744073709551616 = c') :
    Calls Tryd.prog 39 #[.agg (trC s c), .int .u8 (mk : Int), .string lb] w fun e w' => e = .returned (.tuple #[.agg (trC s c'), .agg (celB D).toArray]) ∧ Below w.heap.size w w' := by
  have hDl : D.length = 32 := by rw [← hD]; exact outT_length _ _ _ _
  have HD := Lib.hid hD
  have HSB := Lib.hid hsb
  clear hD hsb
  go_enter Tryd.func39, Tryd.ntmps39
  go_upto_region 1 with fail
  refine wp_named3 (fun V1 hb g0 g1 g2 hlt => ?_)
  have B0 := Lib.hid hb
  have F3 : Hid (RowT V1 w.heap.size s c) := Lib.hid g0
  have F6 : Hid (RowT V1 (w.heap.size + 1) (List.replicate 32 0) 0) := Lib.hid g1
  have F7 : Hid (RowB V1 30 (w.heap.size + 1 + 1) (List.replicate 32 0)) := Lib.hid g2
  have HG1 := Lib.hid (hG.keep hb)
  clear hb g0 g1 g2 hG
  refine wp_floatP [0, 1, 2, 3, 4, 5, 6, 7, 8, 9, 10] (l' := [_, _, _, _, _, _, _, _, _, _, _]) (by kernel_rfl) (lexOK_of (by kernel_rfl) (by kernel_rfl)) (ordOK_of (by kernel_rfl) (by kernel_rfl)) rfl rfl ?_
  simp only [List.getElem_toArray, List.getElem_cons_succ, List.getElem_cons_zero]
  intro Z0 hbW hSW
  have HZ0 := Lib.hid hbW
  have HS0 := Lib.hid hSW
  clear hbW hSW
  refine wpF_seg 6 (by kernel_rfl) ?_
  simp only [List.take_succ_cons, List.take_zero, List.drop_succ_cons, List.drop_zero]
  refine wpQuiet_val (by kernel_rfl) (.pointer (some ⟨w.heap.size, 0, none⟩)) (fun v hv => exec_fT0 w.heap.size rfl rfl v) ?_
  simp only [Act.put, List.setIfInBounds_toArray, List.set_cons_zero, List.set_cons_succ]
  refine wpQuiet_val (by kernel_rfl) (.agg (celB s).toArray) (fun v hv => by obtain ⟨x, rfl⟩ := hv; exact exec_loadTs w.heap.size s c hl (F3.out.keep x.below) rfl rfl) ?_
  simp only [Act.put, List.setIfInBounds_toArray, List.set_cons_zero, List.set_cons_succ]
  refine wpQuiet_val (by kernel_rfl) (.int .u8 (mk : Int)) (fun v hv => rfl) ?_
  simp only [Act.put, List.setIfInBounds_toArray, List.set_cons_zero, List.set_cons_succ]
  refine wpQuiet_val (by kernel_rfl) (.string lb) (fun v hv => rfl) ?_
  simp only [Act.put, List.setIfInBounds_toArray, List.set_cons_zero, List.set_cons_succ]
  refine wpQuiet_val (by kernel_rfl) (.pointer (some ⟨w.heap.size, 32, none⟩)) (fun v hv => exec_fT1 w.heap.size rfl rfl v) ?_
  simp only [Act.put, List.setIfInBounds_toArray, List.set_cons_zero, List.set_cons_succ]
  refine wpQuiet_val (by kernel_rfl) (.int .u64 (c : Int)) (fun v hv => by obtain ⟨x, rfl⟩ := hv; exact exec_loadU _ _ ((F3.out.keep x.below).count hl) rfl rfl) ?_
  simp only [Act.put, List.setIfInBounds_toArray, List.set_cons_zero, List.set_cons_succ]
  refine wpQuiet_nil ?_
  refine wpF_call 47 Tryd.func47 (by kernel_rfl) (by kernel_rfl) _ _ #[.slice none 0 0, .int .u64 (c : Int)] rfl (by kernel_rfl) (by kernel_rfl) HS0.out (fun V hV => ?_)
  have HZ1 := Lib.hid (bel_step HZ0.out hV)
  have HS1 := Lib.hid (HS0.out.ext hV)
  clear hV HZ0 HS0
  refine (appendWord_any V.heap.size (.slice none 0 0) 0 [] c V hc ⟨⟨rfl, .inl ⟨rfl, rfl⟩⟩, fun _ h => by cases h⟩ (Nat.le_refl _) (by omega)).mono ?_
  rintro e Z2 ⟨v15, rfl, ho, hb⟩
  have HZ2 := Lib.hid (bel_step HZ1.out hb)
  have HS2 := Lib.hid (HS1.out.ext hb)
  rw [Nat.zero_add, List.nil_append] at ho
  obtain ⟨C, f, rfl, hs⟩ := ho.sl
  have H15 := Lib.hid hs
  refine ⟨_, rfl, hb, ?_⟩
  clear ho hs hb HZ1 HS1
  simp only [Act.put, List.setIfInBounds_toArray, List.set_cons_zero, List.set_cons_succ]
  refine wpF_make (.cells #[.slice C 8 f] 22, fun b => .slice (some ⟨b, 0, none⟩) 1 1) (by kernel_rfl) (by kernel_rfl) (by kernel_rfl) (fun V => run_buildP1 _ _ _ rfl rfl V) (fun b16 Z3 hV h16 hbz => ?_)
  have HZ3 := Lib.hid (bel_step HZ2.out hV)
  have HS3 := Lib.hid (HS2.out.ext hV)
  have H16 := Lib.hid h16
  have HU : Hid (ReadsP Z3 [.slice C 8 f] [leN c]) := Lib.hid (.cons (H15.out.keep hV) (.nil _))
  clear hV h16 HZ2 HS2 H15
  simp only [Act.put, List.setIfInBounds_toArray, List.set_cons_zero, List.set_cons_succ]
  refine wpF_call 46 Tryd.func46 (by kernel_rfl) (by kernel_rfl) _ _ #[.agg (celB s).toArray, .int .u8 (mk : Int), .string lb, .slice (some ⟨b16, 0, none⟩) 1 1] rfl (by kernel_rfl) (by kernel_rfl) HS3.out (fun V hV => ?_)
  have HZ4 := Lib.hid (bel_step HZ3.out hV)
  have HS4 := Lib.hid (HS3.out.ext hV)
  refine (tagged_any s mk lb b16 1 _ _ V hl HSB.out hmk hlb (heap_keep H16.out hV) rfl (Nat.le_refl _) (by omega) (HU.out.keep hV) (by unfold sumL; simp [leN_length]) (HG1.out.keep HZ4.out) D (by rw [← HD.out]; unfold outT; simp)).mono ?_
  rintro e Z5 ⟨rfl, hb⟩
  have HZ5 := Lib.hid (bel_step HZ4.out hb)
  have HS5 := Lib.hid (HS4.out.ext hb)
  refine ⟨_, rfl, hb, ?_⟩
  clear hV hb HZ3 HS3 HZ4 HS4 H16 HU
  simp only [Act.put, List.setIfInBounds_toArray, List.set_cons_zero, List.set_cons_succ]
  refine wpF_make (.cells z32 30, fun b => ptr b) (by kernel_rfl) (by kernel_rfl) (by kernel_rfl) (fun V => run_allocD _ _ V rfl) (fun b8 Z6 hV h8 hbz8 => ?_)
  have HZ6 := Lib.hid (bel_step HZ5.out hV)
  have HS6 := Lib.hid (HS5.out.ext hV)
  have H8 : Hid (RowB Z6 30 b8 (List.replicate 32 0)) := Lib.hid h8
  clear hV h8 HZ5 HS5
  simp only [ptr, Act.put, List.setIfInBounds_toArray, List.set_cons_zero, List.set_cons_succ]
  refine wpF_last (fun V => V.setRow b8 (celB D).toArray) (by kernel_rfl) (by kernel_rfl) (by kernel_rfl) (fun V hV => exec_storeD (x := .tmp 8) (y := .tmp 17) hDl List.length_replicate (H8.out.keep hV) rfl rfl rfl) (fun V hV => ⟨⟨_, bel_setRow (HS6.out.ext hV).below hbz8 _⟩, rfl⟩) (fun V hV X hX => ?_)
  have hU : Below V1.heap.size V1 X := (bel_setRow (HS6.out.ext hV).below hbz8 _).trans (hX.mono (bel_setRow (HS6.out.ext hV).below hbz8 (celB D).toArray).size)
  have HR8 := Lib.hid (((H8.out.keep hV).row D).keep hX)
  have X3 := Lib.hid (F3.out.keep hU)
  have X6 := Lib.hid (F6.out.keep hU)
  have X7 := Lib.hid (F7.out.keep hU)
  have BX := Lib.hid (bel_step B0.out hU)
  have hb8 : w.heap.size + 1 + 1 < b8 := by omega
  clear hU hV hX HZ6 HS6 H8 hbz hbz8 F3 F6 F7 B0
  simp only [Act.put, List.setIfInBounds_toArray, List.set_cons_zero, List.set_cons_succ]
  go_upto_region 2 with fail
  refine wp_region_lit ?_
  refine wpList_run (by kernel_rfl) (.pointer (some ⟨w.heap.size, 32, none⟩)) X (exec_fT1 w.heap.size rfl rfl X) ?_
  simp only [Act.put, List.setIfInBounds_toArray, List.set_cons_zero, List.set_cons_succ]
  refine wpList_run (by kernel_rfl) (.int .u64 (c : Int)) X (exec_loadU _ _ (X3.out.count hl) rfl rfl) ?_
  simp only [Act.put, List.setIfInBounds_toArray, List.set_cons_zero, List.set_cons_succ]
  refine wpList_run (by kernel_rfl) (.int .u64 (c' : Int)) X (by rw [← hc']; exact exec_incU c rfl rfl rfl X) ?_
  simp only [Act.put, List.setIfInBounds_toArray, List.set_cons_zero, List.set_cons_succ]
  refine wpList_run (by kernel_rfl) (.pointer (some ⟨w.heap.size, 32, none⟩)) X (exec_fT1 w.heap.size rfl rfl X) ?_
  simp only [Act.put, List.setIfInBounds_toArray, List.set_cons_zero, List.set_cons_succ]
  refine wpList_run0 (by kernel_rfl) (X.setCell ⟨w.heap.size, 32, none⟩ (.int .u64 (c' : Int))) (exec_storeU w.heap.size 32 _ _ (c' : Int) X3.out (trC_count hl c) rfl rfl rfl) ?_
  simp only [Act.put, List.setIfInBounds_toArray, List.set_cons_zero, List.set_cons_succ]
  refine wpList_nil ?_
  have Y3 := Lib.hid (X3.out.setCount hl c')
  have Y6 : Hid (RowT (X.setCell ⟨w.heap.size, 32, none⟩ (.int .u64 (c' : Int))) (w.heap.size + 1) (List.replicate 32 0) 0) := Lib.hid ((Below.heap_setCell X ⟨w.heap.size, 32, none⟩ _ (w.heap.size + 1) (by simp)).trans X6.out)
  have Y7 : Hid (RowB (X.setCell ⟨w.heap.size, 32, none⟩ (.int .u64 (c' : Int))) 30 (w.heap.size + 1 + 1) (List.replicate 32 0)) := Lib.hid (X7.out.far _ (by simp; omega))
  have Y8 := Lib.hid (HR8.out.far (a := ⟨w.heap.size, 32, none⟩) (.int .u64 (c' : Int)) (by simp; omega))
  have BY : Hid (Below w.heap.size w (X.setCell ⟨w.heap.size, 32, none⟩ (.int .u64 (c' : Int)))) := Lib.hid (BX.out.setCell (Nat.le_refl _) _)
  clear X3 X6 X7 HR8 BX
  generalize X.setCell ⟨w.heap.size, 32, none⟩ (.int .u64 (c' : Int)) = Y at *
  go_upto_region 3 with fail
  refine wp_free (fun W => RowT W w.heap.size s c' ∧ RowB W 30 b8 D ∧ Below w.heap.size w W ∧ (∃ s0 c0, s0.length = 32 ∧ RowT W (w.heap.size + 1) s0 c0) ∧ ∃ d0, d0.length = 32 ∧ RowB W 30 (w.heap.size + 1 + 1) d0)
    (fun i v W => match i with | 0 => v = .agg (trC s c') | 1 => v = .agg (celB D).toArray | 2 => RowT W (w.heap.size + 1) s c' | _ => RowB W 30 (w.heap.size + 1 + 1) D) (by kernel_rfl) (lexOK_of (by kernel_rfl) (by kernel_rfl)) (by kernel_rfl) (by kernel_rfl) (by kernel_rfl)
    ⟨Y3.out, Y8.out, BY.out.drew, ⟨_, _, List.length_replicate, Y6.out⟩, _, List.length_replicate, Y7.out⟩ ?obl ?fin
  case obl =>
    refine ⟨fun vs W hI hF => ?_, fun vs W hI hF => ?_, fun vs W hI hF => ?_, fun vs W hI hF => ?_, trivial⟩
    · simp only [Act.put, List.setIfInBounds_toArray, List.set_cons_zero, List.set_cons_succ]
      unfold hOp
      rw [exec_loadT w.heap.size s c' hl hI.1 rfl rfl]
      exact ⟨hI, rfl, fun j u _ h => h⟩
    · simp only [Act.put, List.setIfInBounds_toArray, List.set_cons_zero, List.set_cons_succ]
      unfold hOp
      rw [exec_loadD (x := .tmp 8) hDl hI.2.1 rfl rfl]
      exact ⟨hI, rfl, fun j u _ h => h⟩
    · simp only [Act.put, List.setIfInBounds_toArray, List.set_cons_zero, List.set_cons_succ]
      have h0 : vs 0 = .agg (trC s c') := hF 0 (by kernel_rfl)
      obtain ⟨i1, i2, i3, ⟨s0, c0, hs0, i4⟩, d0, hd0, i5⟩ := hI
      unfold hOp
      rw [exec_storeT (x := .tmp 6) (y := .tmp 22) (w.heap.size + 1) s0 c0 s c' hs0 hl i4 rfl rfl (by rw [h0]; rfl)]
      refine ⟨⟨heap_farRow i1 (by omega) _, heap_farRow i2 (by omega) _, bel_setRow i3 (by omega) _, ⟨_, _, hl, i4.row s c'⟩, d0, hd0, heap_farRow i5 (by omega) _⟩, i4.row s c', fun j u hj h => ?_⟩
      match j, hj, h with
      | 0, _, h => exact h
      | 1, _, h => exact h
      | 3, _, h => exact heap_farRow h (by omega) _
      | j + 4, _, h => exact heap_farRow h (by omega) _
    · simp only [Act.put, List.setIfInBounds_toArray, List.set_cons_zero, List.set_cons_succ]
      have h1 : vs 1 = .agg (celB D).toArray := hF 1 (by kernel_rfl)
      obtain ⟨i1, i2, i3, ⟨s0, c0, hs0, i4⟩, d0, hd0, i5⟩ := hI
      unfold hOp
      rw [exec_storeD (x := .tmp 7) (y := .tmp 23) hDl hd0 i5 rfl rfl (by rw [h1]; rfl)]
      refine ⟨⟨heap_farRow i1 (by omega) _, heap_farRow i2 (by omega) _, bel_setRow i3 (by omega) _, ⟨s0, c0, hs0, heap_farRow i4 (by omega) _⟩, _, hDl, i5.row D⟩, i5.row D, fun j u hj h => ?_⟩
      match j, hj, h with
      | 0, _, h => exact h
      | 1, _, h => exact h
      | 2, _, h => exact heap_farRow h (by omega) _
      | j + 4, _, h => exact i5.row D
  case fin =>
    intro vs W hI hF
    have h6 := hF 2 (by decide)
    have h7 := hF 3 (by decide)
    simp only [putsT, Act.put, List.setIfInBounds_toArray, List.set_cons_zero, List.set_cons_succ]
    go_wp2_with fail
    refine bodyPost_ret (v := .tuple #[.agg (trC s c'), .agg (celB D).toArray]) ?_ rfl ⟨rfl, hI.2.2.1⟩
    exact results_row_row rfl _ _ (w.heap.size + 1) (w.heap.size + 1 + 1) _ _ _ _ _ _ rfl rfl h6 h7 Tryd.underlying32 rfl (trC_info hl c') Tryd.underlying30 rfl (dig_size hDl)
end Go.Proofs.YtcaoajeplinopaaDoor

