/- Several texts in one: Mnb, Mnc, Mnd, Mne, Mnf. -/
import Derived.Test.YtgkojdbepgonkaaDoorH18
/- The selected indices; at most 40 leaves. -/
namespace Go.Proofs.YtgkojdbepgonkaaDoor
set_option maxRecDepth 8000
set_option linter.unusedVariables false
set_option linter.unusedSimpArgs false
open Go.RowKit
theorem zint_info : (Tryd.prog.info? 3).map (fun i => (i.zero, i.size, i.bytes)) = some (some (.int .i64 0), 1, 8) := by kernel_rfl
/-- a slice of integers of the call's own -/
def OwZ (w : World) (base : Nat) (v : Value) (n : Nat) (is : List Int) : Prop := w.ownsRow base 3 1 v n (is.map fun z => Value.int .i64 z)
theorem OwZ.keep {w w' : World} {base : Nat} {v : Value} {n : Nat} {is : List Int} (h : OwZ w base v n is) (hb : Below w.heap.size w w') : OwZ w' base v n is :=
  ⟨h.1, by
    rcases h.2 with hn | ⟨g, cap, cur, rfl, hbs, hgg, rest⟩
    · exact .inl hn
    · exact .inr ⟨g, cap, cur, rfl, hbs, heap_keep hgg hb, rest⟩⟩
theorem OwZ.made (w : World) (base : Nat) (hb : base ≤ w.heap.size) : OwZ (w.alloc (.cells #[] 3)) base (.slice (some ⟨w.heap.size, 0, none⟩) 0 0) 0 [] :=
  ⟨rfl, .inr ⟨w.heap.size, 0, #[], rfl, hb, heap_new w _, Nat.le_refl _, by unfold maxLen; omega, rfl, rfl⟩⟩
theorem OwZ.below {w w' : World} {base : Nat} {v : Value} {n : Nat} {is : List Int} (h : OwZ w base v n is) (hg : w.grownBy w' v.ownBlock) (hbase : base ≤ w.heap.size) : Below base w w' :=
  ⟨hg.os, hg.tape, hg.output, hg.size, fun k hk => hg.block k (by omega) (fun e => by have := (World.ownsRow.lt h k e.symm).1; omega)⟩
theorem OwZ.ib {w : World} {base : Nat} {v : Value} {n : Nat} {is : List Int} (h : OwZ w base v n is) : ∃ A c, v = .slice A n c ∧ Ib w A n c is := by
  have hvl : is.length = n := by simpa using h.1
  have hro := h
  rcases h.2 with ⟨rfl, rfl⟩ | ⟨g, cap, cur, rfl, hbs, hgg, k1, k2, _⟩
  · obtain rfl : is = [] := List.length_eq_zero_iff.1 hvl
    exact ⟨none, 0, rfl, ⟨rfl, Nat.le_refl _, Nat.zero_le _, fun _ => rfl, fun i p hp => by simp at hp⟩⟩
  · unfold maxLen at k2
    refine ⟨_, cap, rfl, ⟨hvl.symm, k1, by omega, (fun e => by cases e), fun i p hp => ⟨⟨g, 0, none⟩, rfl, ?_⟩⟩⟩
    rw [ad_base]
    have hl := (List.getElem?_eq_some_iff.1 hp).1
    rw [World.ownsRow.cellAt hro i (by omega), List.getElem?_map, hp]
    rfl
theorem wpList_appendZ {ops : Array Oper} {rest : List Oper} {o : Oper} {a : Act} {Q : Exit → Act → World → Prop} {w : World} (hgd : o.guard = none) (s x : Operand)
    (ho : o.op = .call { callee := .builtin .append, args := #[s, x], argTypes := #[22, 22] }) (base : Nat) (v : Value) (n : Nat) (is : List Int) (hs : a.eval s = v) (hown : OwZ w base v n is)
    (g c : Nat) (z : Int) (hx : a.eval x = .slice (some ⟨g, 0, none⟩) 1 c) (hy : One w g 3 (.int .i64 z)) (hn : n ≤ 65536) (hbase : base ≤ w.heap.size)
    (h : ∀ v' w', OwZ w' base v' (n + 1) (is ++ [z]) → w.grownBy w' v.ownBlock → wpList Tryd.prog ops Q rest (a.put o.dst v') w') : wpList Tryd.prog ops Q (o :: rest) a w := by
  refine wpList_plain hgd fun K hK => ?_
  obtain ⟨i, hi, hz, hs2, hb⟩ := info_parts zint_info
  obtain ⟨v', w', hrun, hown', hg, _⟩ := run_append_own (P := Tryd.prog) w base 22 o.type 3 i (.int .i64 0) 1 8 Tryd.underlying22 hi hz hs2 hb rfl (by omega) v n _ hown ⟨g, 0, none⟩ 1 c [.int .i64 z] rfl
    (by
      intro j u hj
      rw [ad_base]
      match j, hj with
      | 0, hj => injection hj with hj; subst hj; exact hy.c
      | j + 1, hj => simp at hj)
    (by
      intro u hu
      simp at hu
      subst hu
      rfl) (by unfold maxLen; omega) (by omega) hbase
  unfold Oper.wp
  simp [execOp, ho, resolve, invoke, builtin, hs, hx, hrun, Result.andThen]
  refine hK _ _ (h v' w' ?_ hg)
  unfold OwZ
  rw [List.map_append]
  exact hown'
/-- the indices below n whose bits are set -/
def idxN (n bits : Nat) : List Int := ((List.range n).filter fun i => bits / 2 ^ (i % 64) % 2 == 1).map fun i => ((i : Nat) : Int)
theorem idxN_succ (n bits : Nat) : idxN (n + 1) bits = idxN n bits ++ (if bits / 2 ^ (n % 64) % 2 = 1 then [(n : Int)] else []) := by
  unfold idxN
  rw [List.range_succ, List.filter_append, List.map_append]
  by_cases h : bits / 2 ^ (n % 64) % 2 = 1
  · rw [if_pos h, List.filter_cons, if_pos (by simpa using h)]; rfl
  · rw [if_neg h, List.filter_cons, if_neg (by simpa using h)]; rfl
theorem idxN_len (n bits : Nat) : (idxN n bits).length ≤ n := by
  unfold idxN
  rw [List.length_map]
  exact Nat.le_trans (List.length_filter_le _ _) (by rw [List.length_range]; exact Nat.le_refl _)
theorem and_u64_one (a : Nat) (ha : a < 2 ^ 64) : bits .and .u64 (a : Int) 1 = ((a % 2 : Nat) : Int) := by
  have h1 : (BitVec.ofInt 64 (a : Int)).toNat = a := by rw [BitVec.ofInt_natCast, BitVec.toNat_ofNat]; exact Nat.mod_eq_of_lt ha
  have h2 : (BitVec.ofInt 64 (1 : Int)).toNat = 1 := rfl
  show IntKind.u64.wrap ((BitVec.ofInt 64 (a : Int) &&& BitVec.ofInt 64 (1 : Int)).toNat : Int) = _
  rw [BitVec.toNat_and, h1, h2, Nat.and_one_is_mod]
  have : a % 2 < 2 := Nat.mod_lt _ (by omega)
  rw [IntKind.wrap_u64]
  omega
end Go.Proofs.YtgkojdbepgonkaaDoor

/- The leaves of the laws: at most 40, each of at most 70 bytes. -/
namespace Go.Proofs.YtgkojdbepgonkaaDoor
set_option linter.unusedVariables false
set_option linter.unusedSimpArgs false
set_option maxRecDepth 8000
open Go.RowKit
end Go.Proofs.YtgkojdbepgonkaaDoor

/- The leaves and the selection of a query. -/
namespace Go.Proofs.YtgkojdbepgonkaaDoor
set_option linter.unusedVariables false
set_option linter.unusedSimpArgs false
set_option maxRecDepth 8000
open Go.RowKit
end Go.Proofs.YtgkojdbepgonkaaDoor

/- How often a digest occurs; the opened leaves. -/
namespace Go.Proofs.YtgkojdbepgonkaaDoor
set_option linter.unusedVariables false
set_option linter.unusedSimpArgs false
set_option maxRecDepth 8000
open Go.RowKit
attribute [local simp] z32_ne z32_run
attribute [-simp] Tryd.zeroValue34 Tryd.isAgg34 Tryd.sizeOf34
theorem run_storePs {ev : Operand → Value} {o : Oper} {p x : Operand} {u1 u2 : Value} {w : World} {t : TypeId} (b : Nat) (v : Value) (hv : ∃ A n c, v = .slice A n c) (ho : o.op = .store 23 p x) (hp : ev p = .pointer (some ⟨b, 1, none⟩)) (hx : ev x = v) (h : w.heap[b]? = some (.cells #[u1, u2] t (0, 0))) :
    (execOp ev o).run Tryd.prog w = .ok .skip (w.setCell ⟨b, 1, none⟩ v) := by
  obtain ⟨A, n, c, rfl⟩ := hv
  have c0 := cells_at h 1 (v := u2) rfl
  have f0 := frozen_of_row w b 1 _ _ h
  unfold execOp
  rw [ho]
  simp only [hp, hx]
  go_simp
theorem OwP.slice {w : World} {base : Nat} {v : Value} {n : Nat} {Ps : List (List Nat)} (h : OwP w base v n Ps) : ∃ A n c, v = .slice A n c := by
  obtain ⟨A, c, e, _⟩ := h.pb
  exact ⟨A, n, c, e⟩
theorem OwP.nil (w : World) (base : Nat) : OwP w base (.slice none 0 0) 0 [] := ⟨[], World.ownsRow_nil w _ _ _, rfl, fun i L hL => by simp at hL⟩
theorem OwP.far {w : World} {base : Nat} {v : Value} {n : Nat} {Ps : List (List Nat)} (h : OwP w base v n Ps) (p : Addr) (u : Value) (t : TypeId) (cs : Array Value) (hb : w.heap[p.block]? = some (.cells cs t (0, 0))) (hne : v.ownBlock ≠ some p.block) (hu : ∀ a, a.block = p.block → ∀ z, w.cell? a ≠ some (.int .u8 z)) : OwP (w.setCell p u) base v n Ps := by
  obtain ⟨vals, h1, h2, h3⟩ := h
  refine ⟨vals, ⟨h1.1, ?_⟩, h2, fun i L hL => ?_⟩
  · rcases h1.2 with hn | ⟨g, cap, cur, rfl, hbs, hgg, rest⟩
    · exact .inl hn
    · exact .inr ⟨g, cap, cur, rfl, hbs, (Below.heap_setCell w p u g (fun e => hne (by rw [← e]; rfl))).trans hgg, rest⟩
  · obtain ⟨B, m, d, k1, k2, k3⟩ := h3 i L hL
    exact ⟨B, m, d, k1, ⟨k2.len, k2.cap, k2.top, k2.nil, k2.byte, fun i z hz => by
      obtain ⟨ad, e, hc⟩ := k2.cells i z hz
      exact ⟨ad, e, (World.cell?_of_block (Below.heap_setCell w p u _ (fun e2 => hu _ e2 _ hc))).trans hc⟩⟩, k3⟩
theorem OwP.farRow {w : World} {base : Nat} {v : Value} {n : Nat} {Ps : List (List Nat)} (h : OwP w base v n Ps) (b : Nat) (ds : Array Value) (hne : v.ownBlock ≠ some b) (hu : ∀ a, a.block = b → ∀ z, w.cell? a ≠ some (.int .u8 z)) : OwP (w.setRow b ds) base v n Ps := by
  obtain ⟨vals, h1, h2, h3⟩ := h
  refine ⟨vals, ⟨h1.1, ?_⟩, h2, fun i L hL => ?_⟩
  · rcases h1.2 with hn | ⟨g, cap, cur, rfl, hbs, hgg, rest⟩
    · exact .inl hn
    · exact .inr ⟨g, cap, cur, rfl, hbs, (row_far (g := g) (fun e => hne (by rw [← e]; rfl)) ds).trans hgg, rest⟩
  · obtain ⟨B, m, d, k1, k2, k3⟩ := h3 i L hL
    exact ⟨B, m, d, k1, ⟨k2.len, k2.cap, k2.top, k2.nil, k2.byte, fun i z hz => by
      obtain ⟨ad, e, hc⟩ := k2.cells i z hz
      exact ⟨ad, e, (World.cell?_of_block (row_far (fun e2 => hu _ e2 _ hc) ds)).trans hc⟩⟩, k3⟩
theorem exec_loadLv {ev : Operand → Value} {o : Oper} {w : World} {x : Operand} (g : Nat) (u v : Value) (ho : o.op = .load 25 x) (hx : ev x = .pointer (some ⟨g, 0, none⟩)) (hc : w.heap[g]? = some (.cells #[u, v] 25 (0, 0))) :
    (execOp ev o).run Tryd.prog w = .ok (.value (.agg #[u, v])) w := by
  unfold execOp
  simp only [ho, hx, Instr.loadAt, Instr.sureAddr, Sem.run_bind, Sem.run_pure, Result.andThen_ok]
  rw [run_loadVar_row w g 25 25 #[u, v] (0, 0) _ hc Tryd.underlying25 rfl (by kernel_rfl)]
  rfl
theorem exec_storeLv {ev : Operand → Value} {o : Oper} {w : World} {x y : Operand} (g : Nat) (u v : Value) (A B : Option Addr) (n c m d : Nat) (ho : o.op = .store 25 x y) (hx : ev x = .pointer (some ⟨g, 0, none⟩)) (hy : ev y = .agg #[.slice A n c, .slice B m d]) (hc : w.heap[g]? = some (.cells #[u, v] 25 (0, 0))) :
    (execOp ev o).run Tryd.prog w = .ok .skip (w.setRow g #[.slice A n c, .slice B m d]) := exec_storeRow g _ _ ho hx hy hc (by kernel_rfl) rfl (by simp [Value.oneCell'])
theorem cells_no_u8 {w : World} {b : Nat} {t : TypeId} {A B : Option Addr} {n c m d : Nat} (h : w.heap[b]? = some (.cells #[.slice A n c, .slice B m d] t (0, 0))) (a : Addr) (ha : a.block = b) (z : Int) : w.cell? a ≠ some (.int .u8 z) := fun hc => by
  rw [World.cell?, ha, h] at hc
  match a with
  | ⟨_, off, spot⟩ =>
    cases spot with
    | some s => simp at hc
    | none =>
      have := List.mem_of_getElem? (l := [Value.slice A n c, Value.slice B m d]) (i := off) (by simpa using hc)
      simp at this
end Go.Proofs.YtgkojdbepgonkaaDoor

/- The reference's small functions: a number of leaves refused, set bits counted. -/
namespace Go.Proofs.YtgkojdbepgonkaaDoor
set_option linter.unusedVariables false
set_option linter.unusedSimpArgs false
set_option maxRecDepth 8000
open Go.RowKit
theorem size8_small (z : Int) (w : World) (h : z < 1) :
    Calls Tryd.prog 58 #[.int .i64 z] w fun e w' => e = .returned (.int .i64 1) ∧ w' = w := by
  go_enter Tryd.func58, Tryd.ntmps58
  go_wp2_with fail
  go_ret
  exact ⟨rfl, rfl⟩
theorem size8_big (z : Int) (w : World) (h : 65536 < z) :
    Calls Tryd.prog 58 #[.int .i64 z] w fun e w' => e = .returned (.int .i64 2) ∧ w' = w := by
  have h1 : ¬ (z < 1) := by omega
  go_enter Tryd.func58, Tryd.ntmps58
  go_wp2_with fail
  go_ret
  exact ⟨rfl, rfl⟩
theorem rones_any (n : Nat) (w : World) (hn : n ≤ 100000) :
    Calls Tryd.prog 64 #[.int .i64 (n : Int)] w fun e w' => e = .returned (.int .i64 ((onesN n : Nat) : Int)) ∧ w' = w := by
  go_enter Tryd.func64, Tryd.ntmps64
  go_wp2_with fail
  go_loopw [0, 3] (fun s t wr => ∃ m b : Nat, m ≤ n ∧ b + onesN m = onesN n ∧ s = .int .i64 m ∧ t = .int .i64 b ∧ wr = w) (fun s _ _ => (intOf s).toNat)
  case atStart => exact ⟨n, 0, Nat.le_refl _, Nat.zero_add _, rfl, rfl, rfl⟩
  case round =>
    obtain ⟨m, b, hm, hb, rfl, rfl, rfl⟩ := hrel
    have HBB := Lib.hid hb
    have hob := onesN_le n
    have hb2 : b ≤ 100000 := by omega
    clear hb hob
    by_cases h0 : m = 0
    · subst h0
      have e : onesN n = b := by have := HBB.out; rw [onesN_zero] at this; omega
      go_wp2_with fail
      go_ret
      first | exact ⟨rfl, rfl⟩ | (rw [e]; exact ⟨rfl, rfl⟩)
    · have h1 : (0 : Int) < (m : Int) := by omega
      have HS := Lib.hid (onesN_step m)
      have hw1 : IntKind.i64.wrap (Int.tmod (m : Int) 2) = ((m % 2 : Nat) : Int) := by rw [IntKind.wrap_i64, Int.tmod_eq_emod_of_nonneg (by omega)]; omega
      have hw2 : IntKind.i64.wrap (Int.tdiv (m : Int) 2) = ((m / 2 : Nat) : Int) := by rw [IntKind.wrap_i64, Int.tdiv_eq_ediv_of_nonneg (by omega)]; omega
      have hw : IntKind.i64.wrap ((b : Int) + ((m % 2 : Nat) : Int)) = ((b + m % 2 : Nat) : Int) := by rw [IntKind.wrap_i64]; omega
      go_wp2_with fail
      go_roundw
      case rel => exact ⟨m / 2, b + m % 2, by omega, by have := HBB.out; have := HS.out; omega, by first | rfl | go_num, by first | rfl | go_num, by first | trivial | rfl⟩
      case measure => simp [intOf]; omega
end Go.Proofs.YtgkojdbepgonkaaDoor
