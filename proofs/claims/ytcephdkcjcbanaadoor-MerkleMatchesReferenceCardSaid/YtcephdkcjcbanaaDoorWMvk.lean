/- Further moves for the laws of stage 8: copies, pushes with a known length, elements of lists of digests, remainders. -/
import Derived.Test.YtcephdkcjcbanaaDoorH23
namespace Go.Proofs.YtcephdkcjcbanaaDoor
set_option maxRecDepth 8000
set_option linter.unusedVariables false
set_option linter.unusedSimpArgs false
open Go.RowKit
attribute [local simp] z32_ne z32_run
attribute [-simp] Tryd.zeroValue31 Tryd.isAgg31 Tryd.sizeOf31
section
variable {P : Program} {Q : Exit → Act → World → Prop} {ops : Array Oper}
theorem wpList_skip {rest : List Oper} {o : Oper} {a : Act} {w : World} (hw : Region.wanted o (yielded ops a.tmps) = false) (h : wpList P ops Q rest (a.put o.dst undef) w) : wpList P ops Q (o :: rest) a w := by
  unfold wpList
  rw [if_neg (by rw [hw]; simp)]
  exact h
end
theorem db_nil (w : World) (a : Addr) : Db w (some a) 0 0 [] := ⟨rfl, Nat.le_refl _, Nat.zero_le _, (fun e => by cases e), fun d hd => (by cases hd), fun i z hz => by cases i <;> cases hz⟩
theorem pushF_pos : ∀ (k : Nat) (P : List (List Nat)) (m : Nat) (d : List Nat), 1 ≤ (pushF k P m d).length
  | 0, P, _, d => by show 1 ≤ (P ++ [d]).length; simp
  | k + 1, P, m, d => by
    unfold pushF
    split
    · exact pushF_pos k _ _ _
    · simp
theorem push_dbs (A : Option Addr) (n c : Nat) (Ds : List (List Nat)) (cnt : Nat) (B : Option Addr) (nb cb : Nat) (b : List Nat) (w : World) (h : Db w A n c Ds) (hn : n ≤ 60000) (hc : cnt ≤ 100000) (hB : Sb w B nb cb b) (hnb : nb ≤ 59999) (hG : Gl w) (D : List (List Nat)) (hD : pushN Ds cnt (lfN b) = D) (N : Nat) (hN : D.length = N) :
    Calls Tryd.prog 18 #[.slice A n c, .int .i64 (cnt : Int), .slice B nb cb] w fun e w' => ∃ ad f, e = .returned (.slice (some ad) N f) ∧ Db w' (some ad) N f D ∧ Below w.heap.size w w' :=
  (push_db A n c Ds cnt B nb cb b w h hn hc hB hnb hG D hD).mono fun e w' ⟨A2, m, f, he, hd, hb⟩ => by
    have hm : m = N := by rw [← hN]; exact hd.len
    subst hm
    have h1 : 1 ≤ D.length := by rw [← hD]; exact pushF_pos _ _ _ _
    obtain ⟨g, o, rfl⟩ := hd.some_ (by omega)
    exact ⟨_, f, he, hd, hb⟩
/-- a copy of a list of digests: append([]api.Digest{}, s...) -/
theorem hOp_copyD {o : Oper} {a : Act} {w : World} {K : Value → World → Prop} (s x : Operand)
    (ho : o.op = .call { callee := .builtin .append, args := #[s, x], argTypes := #[35, 35] }) (base g0 : Nat) (hs : a.eval s = .slice (some ⟨g0, 0, none⟩) 0 0) (h0 : w.heap[g0]? = some (.cells #[] 31 (0, 0))) (hg0 : base ≤ g0)
    (ad : Addr) (m c : Nat) (Es : List (List Nat)) (hx : a.eval x = .slice (some ad) m c) (hE : Db w (some ad) m c Es) (hn : m ≤ 65536) (hbase : base ≤ w.heap.size)
    (h : ∀ g c' w', Db w' (some ⟨g, 0, none⟩) m c' Es → Below base w w' → K (.slice (some ⟨g, 0, none⟩) m c') w') : hOp Tryd.prog o K a w := by
  have hown : OwD w base (.slice (some ⟨g0, 0, none⟩) 0 0) 0 [] := OwD.nil1 h0 hg0
  refine hOp_appendDs s x ho base _ (fun e => by cases e) hs hown ad m c Es hx hE hn hbase ?_
  intro g c' w' ho' hg'
  obtain ⟨A2, c2, e2, hd⟩ := ho'.db (fun d hd => (hE.dig d hd).2)
  injection e2 with e3 e4 e5
  subst e3 e5
  exact h g c' w' hd (hown.below hg' hbase)
/-- an element of a list of digests -/
structure Ed (w : World) (g o i : Nat) (d : List Nat) : Prop where
  at_ : w.rangeAt g (o + 32 * i) (celB d)
  dig : d.length = 32 ∧ ∀ x ∈ d, x < 256
theorem Ed.keep {w w' : World} {g o i : Nat} {d : List Nat} (h : Ed w g o i d) (hb : Below w.heap.size w w') : Ed w' g o i d := ⟨rangeAt_keep h.at_ hb, h.dig⟩
theorem Db.ed {w : World} {g o n c : Nat} {Ds : List (List Nat)} (h : Db w (some ⟨g, o, none⟩) n c Ds) {i : Nat} {d : List Nat} (hi : Ds[i]? = some d) : Ed w g o i d := by
  obtain ⟨g', o', e, hr⟩ := h.cells i d hi
  injection e with e
  injection e with e1 e2
  subst e1 e2
  exact ⟨hr, h.dig d (List.mem_of_getElem? hi)⟩
section
variable {ev : Operand → Value} {o : Oper}
theorem run_buildB3 {x y z : Operand} (u v t : Nat) (ho : o.op = .buildSlice 44 3 #[(0, x), (1, y), (2, z)]) (hx : ev x = .int .u8 (u : Int)) (hy : ev y = .int .u8 (v : Int)) (hz : ev z = .int .u8 (t : Int)) (w : World) :
    (execOp ev o).run Tryd.prog w = .ok (.value (.slice (some ⟨w.heap.size, 0, none⟩) 3 3)) (w.alloc (.cells #[.int .u8 (u : Int), .int .u8 (v : Int), .int .u8 (t : Int)] 5)) := by
  unfold execOp
  rw [ho]
  simp only [List.map_toArray, List.map_cons, List.map_nil, hx, hy, hz]
  go_simp
theorem exec_addN {x y : Operand} {t : TypeId} (a b c : Nat) (hc : a + b = c) (hl : c ≤ 1000000) (ho : o.op = .binOp .add 3 x y t) (hx : ev x = .int .i64 (a : Int)) (hy : ev y = .int .i64 (b : Int)) (w : World) :
    (execOp ev o).run Tryd.prog w = .ok (.value (.int .i64 (c : Int))) w := by
  have h1 : IntKind.i64.wrap ((a : Int) + (b : Int)) = (c : Int) := by rw [IntKind.wrap_i64]; omega
  unfold execOp
  simp only [ho, hx, hy]
  go_simp
  first | done | rw [h1]
theorem exec_remN {x y : Operand} {t : TypeId} (a b : Nat) (hb : 0 < b) (ha : a ≤ 1000000) (hb2 : b ≤ 1000000) (ho : o.op = .binOp .rem 3 x y t) (hx : ev x = .int .i64 (a : Int)) (hy : ev y = .int .i64 (b : Int)) (w : World) :
    (execOp ev o).run Tryd.prog w = .ok (.value (.int .i64 ((a % b : Nat) : Int))) w := by
  have hlt := Nat.mod_lt a hb
  have h0 : ¬ (b : Int) = 0 := by omega
  have h2 : Int.tmod (a : Int) (b : Int) = ((a % b : Nat) : Int) := by rw [Int.tmod_eq_emod_of_nonneg (by omega)]; omega
  have h1 : IntKind.i64.wrap (Int.tmod (a : Int) (b : Int)) = ((a % b : Nat) : Int) := by rw [IntKind.wrap_i64, h2]; generalize a % b = q at *; omega
  unfold execOp
  simp only [ho, hx, hy]
  go_simp
  first | done | omega | rw [h1]
theorem exec_cvt8 {x : Operand} (a : Nat) (ha : a ≤ 255) (ho : o.op = .convert 5 3 x) (hx : ev x = .int .u8 (a : Int)) (w : World) :
    (execOp ev o).run Tryd.prog w = .ok (.value (.int .i64 (a : Int))) w := by
  have h1 : IntKind.i64.wrap (a : Int) = (a : Int) := by rw [IntKind.wrap_i64]; omega
  unfold execOp
  simp only [ho, hx]
  go_simp
  first | done | rw [h1]
theorem exec_idxI {x y : Operand} (w : World) (ad : Addr) (n c i : Nat) (hi : i < n) (ho : o.op = .indexAddr 26 x y) (hx : ev x = .slice (some ad) n c) (hy : ev y = .int .i64 ((i : Nat) : Int)) :
    (execOp ev o).run Tryd.prog w = .ok (.value (.pointer (some (ad.add i)))) w := by
  have h0 : (0 : Int) ≤ (i : Int) := by omega
  have h1 : (i : Int) < (n : Int) := by omega
  unfold execOp
  simp only [ho, hx, hy]
  go_simp
theorem exec_loadI {x : Operand} {w : World} (a : Addr) (z : Int) (hc : w.cell? a = some (.int .i64 z)) (ho : o.op = .load 3 x) (hx : ev x = .pointer (some a)) :
    (execOp ev o).run Tryd.prog w = .ok (.value (.int .i64 z)) w := by
  unfold execOp
  simp only [ho, hx]
  go_simp
end
end Go.Proofs.YtcephdkcjcbanaaDoor
