/- Several texts in one: Tsa, Tsb, Tsc, Tsd. -/
import Derived.Test.YtcaoajeplinopaaDoorH12
namespace Go.Proofs.YtcaoajeplinopaaDoor
set_option linter.unusedVariables false
set_option linter.unusedSimpArgs false
set_option maxRecDepth 8000
open Go.RowKit
/-- d operations with a fact each; then a new variable and its first store -/
def DI (I : World → Prop) (F : Nat → Value → World → Prop) (d N : Nat) (t : TypeId) (old : Array Value) (G : Array Value → World → Prop) (m : Nat → Bool) (vs : Nat → Value) (W : World) : Prop :=
  I W ∧ (∀ i, i < d → m i = true → F i (vs i) W) ∧ (m (d + 1) = true → m d = true) ∧ (m d = true → ∃ g cs, vs d = .pointer (some ⟨g, 0, none⟩) ∧ N ≤ g ∧ W.heap[g]? = some (.cells cs t (0, 0)) ∧ (m (d + 1) = false → cs = old) ∧ (m (d + 1) = true → G cs W))
section
variable {I : World → Prop} {F : Nat → Value → World → Prop} {d N : Nat} {t : TypeId} {old : Array Value} {G : Array Value → World → Prop} {m m' : Nat → Bool} {vs : Nat → Value} {W W' : World}
theorem setT_ne {i j : Nat} (h : j ≠ i) : setT m i j = m j := by unfold setT; rw [if_neg h]
theorem setT_eq {i : Nat} : setT m i i = true := by unfold setT; rw [if_pos rfl]
theorem setV_ne {i j : Nat} {v : Value} (h : j ≠ i) : setV vs i v j = vs j := by unfold setV; rw [if_neg h]
theorem setV_eq {i : Nat} {v : Value} : setV vs i v i = v := by unfold setV; rw [if_pos rfl]
theorem DI.step (hF : ∀ i v W W', F i v W → Below W.heap.size W W' → F i v W') (hG : ∀ cs W W', G cs W → Below W.heap.size W W' → G cs W') (h : DI I F d N t old G m vs W) {i : Nat} (hi : i < d) {v : Value} (hI : I W') (hv : F i v W') (hb : Below W.heap.size W W') : DI I F d N t old G (setT m i) (setV vs i v) W' := by
  obtain ⟨_, h2, h3, h4⟩ := h
  refine ⟨hI, fun j hj hm => ?_, fun hm => ?_, fun hm => ?_⟩
  · by_cases e : j = i
    · subst e; rw [setV_eq]; exact hv
    · rw [setT_ne e] at hm; rw [setV_ne e]; exact hF _ _ _ _ (h2 j hj hm) hb
  · rw [setT_ne (by omega)] at hm ⊢; exact h3 hm
  · rw [setT_ne (by omega)] at hm
    obtain ⟨g, cs, e1, e2, e3, e4, e5⟩ := h4 hm
    refine ⟨g, cs, by rw [setV_ne (by omega)]; exact e1, e2, heap_keep e3 hb, fun hm => ?_, fun hm => ?_⟩
    · rw [setT_ne (by omega)] at hm; exact e4 hm
    · rw [setT_ne (by omega)] at hm; exact hG _ _ _ (e5 hm) hb
theorem DI.look (h : DI I F d N t old G m vs W) {i : Nat} (hi : i < d) {v : Value} (hv : F i v W) : DI I F d N t old G (setT m i) (setV vs i v) W := by
  obtain ⟨h1, h2, h3, h4⟩ := h
  refine ⟨h1, fun j hj hm => ?_, fun hm => ?_, fun hm => ?_⟩
  · by_cases e : j = i
    · subst e; rw [setV_eq]; exact hv
    · rw [setT_ne e] at hm; rw [setV_ne e]; exact h2 j hj hm
  · rw [setT_ne (by omega)] at hm ⊢; exact h3 hm
  · rw [setT_ne (by omega)] at hm
    obtain ⟨g, cs, e1, e2, e3, e4, e5⟩ := h4 hm
    refine ⟨g, cs, by rw [setV_ne (by omega)]; exact e1, e2, e3, fun hm => ?_, fun hm => ?_⟩
    · rw [setT_ne (by omega)] at hm; exact e4 hm
    · rw [setT_ne (by omega)] at hm; exact e5 hm
theorem DI.alloc (hF : ∀ i v W W', F i v W → Below W.heap.size W W' → F i v W') (hI : ∀ W W', I W → Below W.heap.size W W' → I W') (hN : ∀ W, I W → N ≤ W.heap.size) (h : DI I F d N t old G m vs W) (hm : m d = false) : DI I F d N t old G (setT m d) (setV vs d (.pointer (some ⟨W.heap.size, 0, none⟩))) (W.alloc (.cells old t)) := by
  obtain ⟨h1, h2, h3, h4⟩ := h
  have hb : Below W.heap.size W (W.alloc (.cells old t)) := (Below.refl _ _).alloc (Nat.le_refl _) _
  have hd : m (d + 1) = false := by
    cases e : m (d + 1) with
    | false => rfl
    | true => rw [h3 e] at hm; cases hm
  refine ⟨hI _ _ h1 hb, fun j hj hm => ?_, fun _ => setT_eq, fun _ => ⟨W.heap.size, old, setV_eq, hN _ h1, heap_new W _, fun _ => rfl, fun hm => ?_⟩⟩
  · rw [setT_ne (by omega)] at hm; rw [setV_ne (by omega)]; exact hF _ _ _ _ (h2 j hj hm) hb
  · rw [setT_ne (by omega), hd] at hm
    cases hm
theorem DI.row (h : DI I F d N t old G m vs W) (hm : m (d + 1) = false) (hd : m d = true) : ∃ g, vs d = .pointer (some ⟨g, 0, none⟩) ∧ N ≤ g ∧ W.heap[g]? = some (.cells old t (0, 0)) := by
  obtain ⟨g, cs, e1, e2, e3, e4, _⟩ := h.2.2.2 hd
  rw [e4 hm] at e3
  exact ⟨g, e1, e2, e3⟩
theorem DI.store {new : Array Value} (h : DI I F d N t old G m vs W) (hd : m d = true) (g : Nat) (hg : vs d = .pointer (some ⟨g, 0, none⟩)) (hN : N ≤ g) (hr : W.heap[g]? = some (.cells old t (0, 0))) (k1 : I (W.setRow g new)) (k2 : ∀ i v, F i v W → F i v (W.setRow g new)) (k3 : G new (W.setRow g new)) (u : Value) : DI I F d N t old G (setT m (d + 1)) (setV vs (d + 1) u) (W.setRow g new) := by
  obtain ⟨h1, h2, h3, h4⟩ := h
  refine ⟨k1, fun j hj hm => ?_, fun _ => by rw [setT_ne (by omega)]; exact hd, fun _ => ⟨g, new, by rw [setV_ne (by omega)]; exact hg, hN, heap_rowSet hr new, fun hm => ?_, fun _ => k3⟩⟩
  · rw [setT_ne (by omega)] at hm; rw [setV_ne (by omega)]; exact k2 _ _ (h2 j hj hm)
  · rw [setT_eq] at hm
    cases hm
theorem DI.fin (h : DI I F d N t old G m vs W) (hall : ∀ i, i < d + 2 → m i = true) : I W ∧ (∀ i, i < d → F i (vs i) W) ∧ ∃ g cs, vs d = .pointer (some ⟨g, 0, none⟩) ∧ N ≤ g ∧ W.heap[g]? = some (.cells cs t (0, 0)) ∧ G cs W := by
  obtain ⟨h1, h2, h3, h4⟩ := h
  obtain ⟨g, cs, e1, e2, e3, _, e5⟩ := h4 (hall d (by omega))
  exact ⟨h1, fun i hi => h2 i hi (hall i (by omega)), g, cs, e1, e2, e3, e5 (hall (d + 1) (by omega))⟩
theorem DI.ext (he : ∀ i, i < d + 2 → m i = m' i) (h : DI I F d N t old G m vs W) : DI I F d N t old G m' vs W := by
  obtain ⟨h1, h2, h3, h4⟩ := h
  refine ⟨h1, fun i hi hm => h2 i hi (by rw [he i (by omega)]; exact hm), fun hm => ?_, fun hm => ?_⟩
  · rw [← he (d + 1) (by omega)] at hm; rw [← he d (by omega)]; exact h3 hm
  · rw [← he d (by omega)] at hm; rw [← he (d + 1) (by omega)]; exact h4 hm
end
section
variable {ev : Operand → Value} {o : Oper}
theorem exec_minI {x : Operand} (k n : Nat) (ho : o.op = .call { callee := .builtin .min, args := #[x, .const (.int .i64 (k : Int))], argTypes := #[3, 3] }) (hx : ev x = .int .i64 (n : Int)) (hk : ev (.const (.int .i64 (k : Int))) = .int .i64 (k : Int)) (w : World) : (execOp ev o).run Tryd.prog w = .ok (.value (.int .i64 ((min n k : Nat) : Int))) w := by
  unfold execOp
  simp only [ho]
  by_cases h : n ≤ k
  · have e : min n k = n := by omega
    rw [e]
    go_simp
    intro h2
    omega
  · have e : min n k = k := by omega
    rw [e]
    go_simp
    try (intro h2; omega)
theorem exec_cutB {x y : Operand} (A : Option Addr) (n c p : Nat) (hp : p ≤ c) (ho : o.op = .slice 22 x none (some y) none) (hx : ev x = .slice A n c) (hy : ev y = .int .i64 ((p : Nat) : Int)) (w : World) :
    (execOp ev o).run Tryd.prog w = .ok (.value (.slice A p c)) w := by
  have h0 : (0 : Int) ≤ (p : Int) := by omega
  have h1 : (p : Int) ≤ (c : Int) := by omega
  unfold execOp
  simp only [ho, hx]
  go_simp
  try simp only [Tryd.sizeOf5, Result.andThen]
theorem exec_cutX {x y : Operand} (A : Option Addr) (n c p : Nat) (hp : p ≤ c) (ho : o.op = .slice 23 x none (some y) none) (hx : ev x = .slice A n c) (hy : ev y = .int .i64 ((p : Nat) : Int)) (w : World) :
    (execOp ev o).run Tryd.prog w = .ok (.value (.slice A p c)) w := by
  have h0 : (0 : Int) ≤ (p : Int) := by omega
  have h1 : (p : Int) ≤ (c : Int) := by omega
  unfold execOp
  simp only [ho, hx]
  go_simp
  try simp only [Tryd.sizeOf36, Result.andThen]
theorem exec_cutI {x y : Operand} (A : Option Addr) (n c p : Nat) (hp : p ≤ c) (ho : o.op = .slice 24 x none (some y) none) (hx : ev x = .slice A n c) (hy : ev y = .int .i64 ((p : Nat) : Int)) (w : World) :
    (execOp ev o).run Tryd.prog w = .ok (.value (.slice A p c)) w := by
  have h0 : (0 : Int) ≤ (p : Int) := by omega
  have h1 : (p : Int) ≤ (c : Int) := by omega
  unfold execOp
  simp only [ho, hx]
  go_simp
  try simp only [Tryd.sizeOf2, Result.andThen]
end
end Go.Proofs.YtcaoajeplinopaaDoor

namespace Go.Proofs.YtcaoajeplinopaaDoor
set_option linter.unusedVariables false
set_option linter.unusedSimpArgs false
set_option maxRecDepth 8000
open Go.RowKit Gold
open Go.Shelf
attribute [local simp] z32_ne z32_run
attribute [-simp] Tryd.zeroValue30 Tryd.isAgg30 Tryd.sizeOf30
attribute [-simp] Tryd.zeroValue32 Tryd.isAgg32 Tryd.sizeOf32
attribute [local simp] z33_ne z33_run
attribute [local irreducible] wpList
section
variable {ev : Operand → Value} {o : Oper}
theorem exec_fN0 {x : Operand} (g : Nat) (ho : o.op = .fieldAddr 27 x 0) (hx : ev x = .pointer (some ⟨g, 0, none⟩)) (w : World) : (execOp ev o).run Tryd.prog w = .ok (.value (.pointer (some ⟨g, 0, none⟩))) w := by
  unfold execOp
  simp only [ho, hx]
  go_simp
theorem exec_fN1 {x : Operand} (g : Nat) (ho : o.op = .fieldAddr 27 x 1) (hx : ev x = .pointer (some ⟨g, 0, none⟩)) (w : World) : (execOp ev o).run Tryd.prog w = .ok (.value (.pointer (some ⟨g, 1, none⟩))) w := by
  unfold execOp
  simp only [ho, hx]
  go_simp
theorem exec_fN2 {x : Operand} (g : Nat) (ho : o.op = .fieldAddr 27 x 2) (hx : ev x = .pointer (some ⟨g, 0, none⟩)) (w : World) : (execOp ev o).run Tryd.prog w = .ok (.value (.pointer (some ⟨g, 2, none⟩))) w := by
  unfold execOp
  simp only [ho, hx]
  go_simp
theorem exec_fN3 {x : Operand} (g : Nat) (ho : o.op = .fieldAddr 27 x 3) (hx : ev x = .pointer (some ⟨g, 0, none⟩)) (w : World) : (execOp ev o).run Tryd.prog w = .ok (.value (.pointer (some ⟨g, 3, none⟩))) w := by
  unfold execOp
  simp only [ho, hx]
  go_simp
theorem exec_fN4 {x : Operand} (g : Nat) (ho : o.op = .fieldAddr 27 x 4) (hx : ev x = .pointer (some ⟨g, 0, none⟩)) (w : World) : (execOp ev o).run Tryd.prog w = .ok (.value (.pointer (some ⟨g, 4, none⟩))) w := by
  unfold execOp
  simp only [ho, hx]
  go_simp
theorem exec_fN5 {x : Operand} (g : Nat) (ho : o.op = .fieldAddr 27 x 5) (hx : ev x = .pointer (some ⟨g, 0, none⟩)) (w : World) : (execOp ev o).run Tryd.prog w = .ok (.value (.pointer (some ⟨g, 5, none⟩))) w := by
  unfold execOp
  simp only [ho, hx]
  go_simp
theorem exec_loadSX10 {x : Operand} {w : World} (a : Addr) (B : Option Addr) (m d : Nat) (hc : w.cell? a = some (.slice B m d)) (ho : o.op = .load 23 x) (hx : ev x = .pointer (some a)) :
    (execOp ev o).run Tryd.prog w = .ok (.value (.slice B m d)) w := by
  unfold execOp
  simp only [ho, hx]
  go_simp
theorem exec_lenX10 {x : Operand} (A : Option Addr) (n c : Nat) (ho : o.op = .call { callee := .builtin .len, args := #[x], argTypes := #[23] }) (hx : ev x = .slice A n c) (w : World) :
    (execOp ev o).run Tryd.prog w = .ok (.value (.int .i64 (n : Int))) w := by
  unfold execOp
  simp only [ho]
  go_simp
theorem exec_loadSI10 {x : Operand} {w : World} (a : Addr) (B : Option Addr) (m d : Nat) (hc : w.cell? a = some (.slice B m d)) (ho : o.op = .load 24 x) (hx : ev x = .pointer (some a)) :
    (execOp ev o).run Tryd.prog w = .ok (.value (.slice B m d)) w := by
  unfold execOp
  simp only [ho, hx]
  go_simp
theorem exec_lenI10 {x : Operand} (A : Option Addr) (n c : Nat) (ho : o.op = .call { callee := .builtin .len, args := #[x], argTypes := #[24] }) (hx : ev x = .slice A n c) (w : World) :
    (execOp ev o).run Tryd.prog w = .ok (.value (.int .i64 (n : Int))) w := by
  unfold execOp
  simp only [ho]
  go_simp
theorem exec_allocN (ho : o.op = .alloc 27) (w : World) : (execOp ev o).run Tryd.prog w = .ok (.value (.pointer (some ⟨w.heap.size, 0, none⟩))) (w.alloc (.cells #[.string ByteArray.empty, .slice none 0 0, .slice none 0 0, .slice none 0 0, .slice none 0 0, .int .u64 0] 27)) := by
  unfold execOp
  simp only [ho]
  go_simp
  try rfl
theorem exec_buildN {x y z : Operand} (A B C : Option Addr) (p d q e r f : Nat) (ho : o.op = .build 27 #[(1, x), (2, y), (3, z)]) (hx : ev x = .slice A p d) (hy : ev y = .slice B q e) (hz : ev z = .slice C r f) (w : World) :
    (execOp ev o).run Tryd.prog w = .ok (.value (.agg #[.string ByteArray.empty, .slice A p d, .slice B q e, .slice C r f, .slice none 0 0, .int .u64 0])) w := by
  unfold execOp
  rw [ho]
  simp only [List.map_toArray, List.map_cons, List.map_nil, hx, hy, hz]
  go_simp
  try rfl
theorem exec_loadN {x : Operand} {w : World} (g : Nat) (cs : Array Value) (hs : cs.size = 6) (hc : w.heap[g]? = some (.cells cs 27 (0, 0))) (ho : o.op = .load 27 x) (hx : ev x = .pointer (some ⟨g, 0, none⟩)) :
    (execOp ev o).run Tryd.prog w = .ok (.value (.agg cs)) w := by
  unfold execOp
  simp only [ho, hx, Instr.loadAt, Instr.sureAddr, Sem.run_bind, Sem.run_pure, Result.andThen_ok]
  rw [run_loadVar_row w g 27 27 cs (0, 0) _ hc Tryd.underlying27 rfl (by rw [hs]; kernel_rfl)]
  rfl
end
theorem OwX.mono2 {w : World} {b b' n : Nat} {v : Value} {xs : List (Nat × Nat)} (h : OwX w b v n xs) (hb : b' ≤ b) : OwX w b' v n xs := ⟨h.1, h.2.elim .inl fun ⟨g, cap, cur, h1, h2, h3⟩ => .inr ⟨g, cap, cur, h1, Nat.le_trans hb h2, h3⟩⟩
theorem OwX.same2 {w w' : World} {b n : Nat} {v : Value} {xs : List (Nat × Nat)} (h : OwX w b v n xs) (hk : ∀ g cs, b ≤ g → w.heap[g]? = some (.cells cs 36 (0, 0)) → w'.heap[g]? = some (.cells cs 36 (0, 0))) : OwX w' b v n xs := ⟨h.1, h.2.elim .inl fun ⟨g, cap, cur, h1, h2, h3, h4⟩ => .inr ⟨g, cap, cur, h1, h2, hk g _ h2 h3, h4⟩⟩
theorem XbT.take {w : World} {A : Option Addr} {n c k : Nat} {xs : List (Nat × Nat)} (h : XbT w A n c xs) (hk : k ≤ n) : XbT w A k c (xs.take k) :=
  ⟨by have := h.len; rw [List.length_take]; omega, by have := h.cap; omega, h.top, h.nil, fun x hx => h.lt x (List.mem_of_mem_take hx), fun i x hx => h.cells i x (by
    have hl := (List.getElem?_eq_some_iff.1 hx).1
    rw [List.length_take] at hl
    rwa [List.getElem?_take_of_lt (by omega)] at hx)⟩
theorem results_rtr {P : Program} {fn : Func} {p q r : Tmp} {ty ty2 : TypeId} (h : fn.results = #[.cell p ty, .tmp r, .cell q ty2]) (tmps : Array Value) (w : World) (g k : Nat) (t t2 : TypeId) (cs ds : Array Value) (v : Value) (d d2 : TypeDesc)
    (hp : tmps.getD p undef = .pointer (some ⟨g, 0, none⟩)) (hr : tmps.getD r undef = v) (hq : tmps.getD q undef = .pointer (some ⟨k, 0, none⟩)) (hg : w.heap[g]? = some (.cells cs t (0, 0))) (hk : w.heap[k]? = some (.cells ds t2 (0, 0)))
    (hu : P.underlying ty = some d) (hd : (match d with | .struct _ | .array _ _ => true | _ => false) = true) (hi : (P.info? ty).map (·.size) = some cs.size)
    (hu2 : P.underlying ty2 = some d2) (hd2 : (match d2 with | .struct _ | .array _ _ => true | _ => false) = true) (hi2 : (P.info? ty2).map (·.size) = some ds.size) :
    (results fn tmps).run P w = .ok (.tuple #[.agg cs, v, .agg ds]) w := by
  have hp' : tmps[p]?.getD undef = .pointer (some ⟨g, 0, none⟩) := by simpa using hp
  have hq' : tmps[q]?.getD undef = .pointer (some ⟨k, 0, none⟩) := by simpa using hq
  have hr' : tmps[r]?.getD undef = v := by simpa using hr
  simp [results, h, hp', hq', hr', asAddr, Result.andThen, run_loadVar_row w g t ty cs (0, 0) d hg hu hd hi, run_loadVar_row w k t2 ty2 ds (0, 0) d2 hk hu2 hd2 hi2]
set_option maxHeartbeats 16000000 in
theorem made10_any (ls : ByteArray) (A1 : Option Addr) (n1 c1 : Nat) (bs : List Nat) (A2 : Option Addr) (n2 c2 : Nat) (xs : List (Nat × Nat)) (A3 : Option Addr) (n3 c3 : Nat) (is : List Int) (A4 : Option Addr) (n4 c4 : Nat) (st : List Nat) (cnt : Nat) (w : World)
    (hS1 : Sb w A1 n1 c1 bs) (hS2 : XbT w A2 n2 c2 xs) (hS3 : Ib w A3 n3 c3 is) (hS4 : Sb w A4 n4 c4 st) (hc : cnt < 18446744073709551616) (s : List Nat) (hs : madeN st = s) :
    Calls Tryd.prog 12 #[.agg #[.string ls, .slice A1 n1 c1, .slice A2 n2 c2, .slice A3 n3 c3, .slice A4 n4 c4, .int .u64 (cnt : Int)]] w fun e w' => ∃ lb v, e = .returned (.tuple #[.agg (trC s cnt), .string lb, .agg #[.string ByteArray.empty, .slice A1 (min n1 200) c1, v, .slice A3 (min n3 12) c3, .slice none 0 0, .int .u64 0]]) ∧ lb.size ≤ 32 ∧ OwX w' w.heap.size v (min n2 12) ((xs.take (min n2 12)).map redX) ∧ Below w.heap.size w w' := by
  have hl : s.length = 32 := by rw [← hs]; exact madeN_length _
  have HS := Lib.hid hs
  have HS1 := Lib.hid hS1
  have HS2 := Lib.hid hS2
  have HS3 := Lib.hid hS3
  have HS4 := Lib.hid hS4
  have hcap1 := hS1.cap
  have hcap2 := hS2.cap
  have hcap3 := hS3.cap
  clear hs hS1 hS2 hS3 hS4
  go_enter Tryd.func12, Tryd.ntmps12
  go_upto_region 1 with fail
  refine wp_named3 (fun V1 hb g0 g1 g2 hlt => ?_)
  have F0 : Hid ((fun W => W.heap[w.heap.size]? = some (.cells #[.string ls, .slice A1 n1 c1, .slice A2 n2 c2, .slice A3 n3 c3, .slice A4 n4 c4, .int .u64 (cnt : Int)] 27 (0, 0)) ∧ RowT W (w.heap.size + 1) (List.replicate 32 0) 0 ∧ W.heap[w.heap.size + 1 + 1]? = some (.cells #[.string ByteArray.empty, .slice none 0 0, .slice none 0 0, .slice none 0 0, .slice none 0 0, .int .u64 0] 27 (0, 0)) ∧ Below w.heap.size w W ∧ V1.heap.size ≤ W.heap.size) V1) := Lib.hid ⟨g0, g1, g2, hb, Nat.le_refl _⟩
  clear hb g0 g1 g2
  refine (wpIn_wide (n := 2)).1 ?_
  refine wpIn_freeM (DI (fun W => W.heap[w.heap.size]? = some (.cells #[.string ls, .slice A1 n1 c1, .slice A2 n2 c2, .slice A3 n3 c3, .slice A4 n4 c4, .int .u64 (cnt : Int)] 27 (0, 0)) ∧ RowT W (w.heap.size + 1) (List.replicate 32 0) 0 ∧ W.heap[w.heap.size + 1 + 1]? = some (.cells #[.string ByteArray.empty, .slice none 0 0, .slice none 0 0, .slice none 0 0, .slice none 0 0, .int .u64 0] 27 (0, 0)) ∧ Below w.heap.size w W ∧ V1.heap.size ≤ W.heap.size)
    (fun i v W => match i with
      | 0 => v = .pointer (some ⟨w.heap.size, 4, none⟩)
      | 1 => v = .slice A4 n4 c4
      | 2 => v = .agg (celB s).toArray
      | 3 => v = .pointer (some ⟨w.heap.size, 5, none⟩)
      | 4 => v = .int .u64 (cnt : Int)
      | _ => v = .agg (trC s cnt)) 6 V1.heap.size 32 (trC (List.replicate 32 0) 0) (fun cs W => cs = trC s cnt)) (by kernel_rfl) (lexOK_of (by kernel_rfl) (by kernel_rfl)) (by kernel_rfl) (by kernel_rfl) (by kernel_rfl)
    ⟨⟨F0.out.1, F0.out.2.1, F0.out.2.2.1, F0.out.2.2.2.1.drew, F0.out.2.2.2.2⟩, fun i _ h => (by cases h), fun h => (by cases h), fun h => (by cases h)⟩ ?obl (fun m m' vs W he h => h.ext he) ?fin
  case obl =>
    refine oblM_cons (fun m vs W hcs hm hdp hI => ?_) ?_
    · (try simp only [Nat.zero_add, Nat.reduceAdd, Act.put, List.setIfInBounds_toArray, List.set_cons_zero, List.set_cons_succ])
      have hW := hI.1
      exact hOpI_val (.pointer (some ⟨w.heap.size, 4, none⟩)) (exec_fN4 w.heap.size rfl rfl W) (hI.look (by decide) rfl)
    refine oblM_cons (fun m vs W hcs hm hdp hI => ?_) ?_
    · (try simp only [Nat.zero_add, Nat.reduceAdd, Act.put, List.setIfInBounds_toArray, List.set_cons_zero, List.set_cons_succ])
      have hW := hI.1
      have h0 : vs 0 = .pointer (some ⟨w.heap.size, 4, none⟩) := hI.2.1 0 (by decide) (hdp 0 (by kernel_rfl))
      exact hOpI_val (.slice A4 n4 c4) (exec_loadS (x := .tmp 7) ⟨w.heap.size, 4, none⟩ A4 n4 c4 (cells_at hW.1 4 rfl) rfl (by rw [h0]; rfl)) (hI.look (by decide) rfl)
    refine oblM_cons (fun m vs W hcs hm hdp hI => ?_) ?_
    · simp only [Nat.zero_add, Nat.reduceAdd, Act.put, List.setIfInBounds_toArray, List.set_cons_zero, List.set_cons_succ]
      have hW := hI.1
      have h1 : vs 1 = .slice A4 n4 c4 := hI.2.1 1 (by decide) (hdp 1 (by kernel_rfl))
      refine hOpI_of (hOp_call 37 Tryd.func37 (by kernel_rfl) (by kernel_rfl) _ _ #[.slice A4 n4 c4] rfl (by simp [Act.eval, h1]) ?_)
      refine (rmade_any A4 n4 c4 st W (HS4.out.keep hW.2.2.2.1)).mono ?_
      rintro e W' ⟨rfl, hb⟩
      refine ⟨_, rfl, hI.step (fun i v W W' h _ => h) (fun cs W W' h _ => h) (by decide) ((fun W W' h hb => ⟨heap_keep h.1 hb, h.2.1.keep hb, heap_keep h.2.2.1 hb, bel_step h.2.2.2.1 hb, Nat.le_trans h.2.2.2.2 hb.size⟩) W W' hW hb) (by rw [HS.out]; rfl) hb⟩
    refine oblM_cons (fun m vs W hcs hm hdp hI => ?_) ?_
    · (try simp only [Nat.zero_add, Nat.reduceAdd, Act.put, List.setIfInBounds_toArray, List.set_cons_zero, List.set_cons_succ])
      have hW := hI.1
      exact hOpI_val (.pointer (some ⟨w.heap.size, 5, none⟩)) (exec_fN5 w.heap.size rfl rfl W) (hI.look (by decide) rfl)
    refine oblM_cons (fun m vs W hcs hm hdp hI => ?_) ?_
    · (try simp only [Nat.zero_add, Nat.reduceAdd, Act.put, List.setIfInBounds_toArray, List.set_cons_zero, List.set_cons_succ])
      have hW := hI.1
      have h3 : vs 3 = .pointer (some ⟨w.heap.size, 5, none⟩) := hI.2.1 3 (by decide) (hdp 3 (by kernel_rfl))
      exact hOpI_val (.int .u64 (cnt : Int)) (exec_loadU (x := .tmp 10) ⟨w.heap.size, 5, none⟩ (cnt : Int) (cells_at hW.1 5 rfl) rfl (by rw [h3]; rfl)) (hI.look (by decide) rfl)
    refine oblM_cons (fun m vs W hcs hm hdp hI => ?_) ?_
    · (try simp only [Nat.zero_add, Nat.reduceAdd, Act.put, List.setIfInBounds_toArray, List.set_cons_zero, List.set_cons_succ])
      have hW := hI.1
      have h2 : vs 2 = .agg (celB s).toArray := hI.2.1 2 (by decide) (hdp 2 (by kernel_rfl))
      have h4 : vs 4 = .int .u64 (cnt : Int) := hI.2.1 4 (by decide) (hdp 4 (by kernel_rfl))
      exact hOpI_val (.agg (trC s cnt)) (exec_buildT2 (x := .tmp 9) (y := .tmp 11) s cnt hl rfl (by rw [h2]; rfl) (by rw [h4]; rfl) W) (hI.look (by decide) rfl)
    refine oblM_cons (fun m vs W hcs hm hdp hI => ?_) ?_
    · simp only [Nat.zero_add, Nat.reduceAdd, Act.put, List.setIfInBounds_toArray, List.set_cons_zero, List.set_cons_succ]
      unfold hOpI
      rw [exec_allocT W rfl]
      exact hI.alloc (fun i v W W' h _ => h) (fun W W' h hb => ⟨heap_keep h.1 hb, h.2.1.keep hb, heap_keep h.2.2.1 hb, bel_step h.2.2.2.1 hb, Nat.le_trans h.2.2.2.2 hb.size⟩) (fun W h => h.2.2.2.2) hm
    refine oblM_cons (fun m vs W hcs hm hdp hI => ?_) ?_
    · simp only [Nat.zero_add, Nat.reduceAdd, Act.put, List.setIfInBounds_toArray, List.set_cons_zero, List.set_cons_succ]
      have hW := hI.1
      have h5 : vs 5 = .agg (trC s cnt) := hI.2.1 5 (by decide) (hdp 5 (by kernel_rfl))
      obtain ⟨g, h6, hg, hr⟩ := hI.row hm (hdp 6 (by kernel_rfl))
      unfold hOpI
      rw [exec_storeT (x := .tmp 5) (y := .tmp 12) g (List.replicate 32 0) 0 s cnt List.length_replicate hl hr rfl (by rw [h6]; rfl) (by rw [h5]; rfl)]
      exact hI.store (hdp 6 (by kernel_rfl)) g h6 hg hr ⟨heap_farRow hW.1 (by omega) _, heap_farRow hW.2.1 (by omega) _, heap_farRow hW.2.2.1 (by omega) _, bel_setRow hW.2.2.2.1 (by omega) _, by simpa [World.setRow] using hW.2.2.2.2⟩ (fun i v h => h) rfl _
    trivial
  case fin =>
    intro m vs W2 hall hI
    obtain ⟨hW, _, g5, cs, h6, hg5, hr5, rfl⟩ := hI.fin hall
    have F5 : Hid (RowT W2 g5 s cnt) := Lib.hid hr5
    have FW := Lib.hid hW
    clear hI hall hr5 hW F0
    simp only [putsT, Nat.zero_add, Nat.reduceAdd, Act.put, List.setIfInBounds_toArray, List.set_cons_zero, List.set_cons_succ, h6]
    clear h6
    generalize vs 0 = v0, vs 1 = v1, vs 2 = v2, vs 3 = v3, vs 4 = v4, vs 5 = v5, vs 7 = v7
    go_upto_region 2 with fail
    have HFK : ∀ (i : Nat) (v : Value) (W W' : World), (fun i v W => match i with
        | 0 => v = .pointer (some ⟨w.heap.size, 1, none⟩)
        | 1 => v = .slice A1 n1 c1
        | 2 => v = .pointer (some ⟨w.heap.size, 1, none⟩)
        | 3 => v = .slice A1 n1 c1
        | 4 => v = .int .i64 (n1 : Int)
        | 5 => v = .int .i64 ((min n1 200 : Nat) : Int)
        | 6 => v = .slice A1 (min n1 200) c1
        | 7 => v = .pointer (some ⟨w.heap.size, 2, none⟩)
        | 8 => v = .slice A2 n2 c2
        | 9 => v = .pointer (some ⟨w.heap.size, 2, none⟩)
        | 10 => v = .slice A2 n2 c2
        | 11 => v = .int .i64 (n2 : Int)
        | 12 => v = .int .i64 ((min n2 12 : Nat) : Int)
        | 13 => v = .slice A2 (min n2 12) c2
        | 14 => OwX W W2.heap.size v (min n2 12) ((xs.take (min n2 12)).map redX)
        | 15 => v = .pointer (some ⟨w.heap.size, 3, none⟩)
        | 16 => v = .slice A3 n3 c3
        | 17 => v = .pointer (some ⟨w.heap.size, 3, none⟩)
        | 18 => v = .slice A3 n3 c3
        | 19 => v = .int .i64 (n3 : Int)
        | 20 => v = .int .i64 ((min n3 12 : Nat) : Int)
        | 21 => v = .slice A3 (min n3 12) c3
        | _ => ∃ v1, v = .agg #[.string ByteArray.empty, .slice A1 (min n1 200) c1, v1, .slice A3 (min n3 12) c3, .slice none 0 0, .int .u64 0] ∧ OwX W W2.heap.size v1 (min n2 12) ((xs.take (min n2 12)).map redX)) i v W → Below W.heap.size W W' → (fun i v W => match i with
        | 0 => v = .pointer (some ⟨w.heap.size, 1, none⟩)
        | 1 => v = .slice A1 n1 c1
        | 2 => v = .pointer (some ⟨w.heap.size, 1, none⟩)
        | 3 => v = .slice A1 n1 c1
        | 4 => v = .int .i64 (n1 : Int)
        | 5 => v = .int .i64 ((min n1 200 : Nat) : Int)
        | 6 => v = .slice A1 (min n1 200) c1
        | 7 => v = .pointer (some ⟨w.heap.size, 2, none⟩)
        | 8 => v = .slice A2 n2 c2
        | 9 => v = .pointer (some ⟨w.heap.size, 2, none⟩)
        | 10 => v = .slice A2 n2 c2
        | 11 => v = .int .i64 (n2 : Int)
        | 12 => v = .int .i64 ((min n2 12 : Nat) : Int)
        | 13 => v = .slice A2 (min n2 12) c2
        | 14 => OwX W W2.heap.size v (min n2 12) ((xs.take (min n2 12)).map redX)
        | 15 => v = .pointer (some ⟨w.heap.size, 3, none⟩)
        | 16 => v = .slice A3 n3 c3
        | 17 => v = .pointer (some ⟨w.heap.size, 3, none⟩)
        | 18 => v = .slice A3 n3 c3
        | 19 => v = .int .i64 (n3 : Int)
        | 20 => v = .int .i64 ((min n3 12 : Nat) : Int)
        | 21 => v = .slice A3 (min n3 12) c3
        | _ => ∃ v1, v = .agg #[.string ByteArray.empty, .slice A1 (min n1 200) c1, v1, .slice A3 (min n3 12) c3, .slice none 0 0, .int .u64 0] ∧ OwX W W2.heap.size v1 (min n2 12) ((xs.take (min n2 12)).map redX)) i v W' := fun i v W W' h hb => by
      match i, h with
      | 0, h => exact h
      | 1, h => exact h
      | 2, h => exact h
      | 3, h => exact h
      | 4, h => exact h
      | 5, h => exact h
      | 6, h => exact h
      | 7, h => exact h
      | 8, h => exact h
      | 9, h => exact h
      | 10, h => exact h
      | 11, h => exact h
      | 12, h => exact h
      | 13, h => exact h
      | 14, h => exact OwX.keep h hb
      | 15, h => exact h
      | 16, h => exact h
      | 17, h => exact h
      | 18, h => exact h
      | 19, h => exact h
      | 20, h => exact h
      | 21, h => exact h
      | i + 22, ⟨v1, e, h⟩ => exact ⟨v1, e, h.keep hb⟩
    have HSK : ∀ (W W' : World), (∀ {v n ys}, OwX W W2.heap.size v n ys → OwX W' W2.heap.size v n ys) → ∀ (i : Nat) (v : Value), (fun i v W => match i with
        | 0 => v = .pointer (some ⟨w.heap.size, 1, none⟩)
        | 1 => v = .slice A1 n1 c1
        | 2 => v = .pointer (some ⟨w.heap.size, 1, none⟩)
        | 3 => v = .slice A1 n1 c1
        | 4 => v = .int .i64 (n1 : Int)
        | 5 => v = .int .i64 ((min n1 200 : Nat) : Int)
        | 6 => v = .slice A1 (min n1 200) c1
        | 7 => v = .pointer (some ⟨w.heap.size, 2, none⟩)
        | 8 => v = .slice A2 n2 c2
        | 9 => v = .pointer (some ⟨w.heap.size, 2, none⟩)
        | 10 => v = .slice A2 n2 c2
        | 11 => v = .int .i64 (n2 : Int)
        | 12 => v = .int .i64 ((min n2 12 : Nat) : Int)
        | 13 => v = .slice A2 (min n2 12) c2
        | 14 => OwX W W2.heap.size v (min n2 12) ((xs.take (min n2 12)).map redX)
        | 15 => v = .pointer (some ⟨w.heap.size, 3, none⟩)
        | 16 => v = .slice A3 n3 c3
        | 17 => v = .pointer (some ⟨w.heap.size, 3, none⟩)
        | 18 => v = .slice A3 n3 c3
        | 19 => v = .int .i64 (n3 : Int)
        | 20 => v = .int .i64 ((min n3 12 : Nat) : Int)
        | 21 => v = .slice A3 (min n3 12) c3
        | _ => ∃ v1, v = .agg #[.string ByteArray.empty, .slice A1 (min n1 200) c1, v1, .slice A3 (min n3 12) c3, .slice none 0 0, .int .u64 0] ∧ OwX W W2.heap.size v1 (min n2 12) ((xs.take (min n2 12)).map redX)) i v W → (fun i v W => match i with
        | 0 => v = .pointer (some ⟨w.heap.size, 1, none⟩)
        | 1 => v = .slice A1 n1 c1
        | 2 => v = .pointer (some ⟨w.heap.size, 1, none⟩)
        | 3 => v = .slice A1 n1 c1
        | 4 => v = .int .i64 (n1 : Int)
        | 5 => v = .int .i64 ((min n1 200 : Nat) : Int)
        | 6 => v = .slice A1 (min n1 200) c1
        | 7 => v = .pointer (some ⟨w.heap.size, 2, none⟩)
        | 8 => v = .slice A2 n2 c2
        | 9 => v = .pointer (some ⟨w.heap.size, 2, none⟩)
        | 10 => v = .slice A2 n2 c2
        | 11 => v = .int .i64 (n2 : Int)
        | 12 => v = .int .i64 ((min n2 12 : Nat) : Int)
        | 13 => v = .slice A2 (min n2 12) c2
        | 14 => OwX W W2.heap.size v (min n2 12) ((xs.take (min n2 12)).map redX)
        | 15 => v = .pointer (some ⟨w.heap.size, 3, none⟩)
        | 16 => v = .slice A3 n3 c3
        | 17 => v = .pointer (some ⟨w.heap.size, 3, none⟩)
        | 18 => v = .slice A3 n3 c3
        | 19 => v = .int .i64 (n3 : Int)
        | 20 => v = .int .i64 ((min n3 12 : Nat) : Int)
        | 21 => v = .slice A3 (min n3 12) c3
        | _ => ∃ v1, v = .agg #[.string ByteArray.empty, .slice A1 (min n1 200) c1, v1, .slice A3 (min n3 12) c3, .slice none 0 0, .int .u64 0] ∧ OwX W W2.heap.size v1 (min n2 12) ((xs.take (min n2 12)).map redX)) i v W' := fun W W' hf i v h => by
      match i, h with
      | 0, h => exact h
      | 1, h => exact h
      | 2, h => exact h
      | 3, h => exact h
      | 4, h => exact h
      | 5, h => exact h
      | 6, h => exact h
      | 7, h => exact h
      | 8, h => exact h
      | 9, h => exact h
      | 10, h => exact h
      | 11, h => exact h
      | 12, h => exact h
      | 13, h => exact h
      | 14, h => exact hf h
      | 15, h => exact h
      | 16, h => exact h
      | 17, h => exact h
      | 18, h => exact h
      | 19, h => exact h
      | 20, h => exact h
      | 21, h => exact h
      | i + 22, ⟨v1, e, h⟩ => exact ⟨v1, e, hf h⟩
    have HGK : ∀ (cs : Array Value) (W W' : World), (∃ v, cs = #[.string ByteArray.empty, .slice A1 (min n1 200) c1, v, .slice A3 (min n3 12) c3, .slice none 0 0, .int .u64 0] ∧ OwX W W2.heap.size v (min n2 12) ((xs.take (min n2 12)).map redX)) → Below W.heap.size W W' → (∃ v, cs = #[.string ByteArray.empty, .slice A1 (min n1 200) c1, v, .slice A3 (min n3 12) c3, .slice none 0 0, .int .u64 0] ∧ OwX W' W2.heap.size v (min n2 12) ((xs.take (min n2 12)).map redX)) := fun cs W W' ⟨v, e, h⟩ hb => ⟨v, e, h.keep hb⟩
    have N2 : W2.heap.size = W2.heap.size := rfl
    refine (wpIn_wide (n := 2)).1 ?_
    refine wpIn_freeM (DI (fun W => W.heap[w.heap.size]? = some (.cells #[.string ls, .slice A1 n1 c1, .slice A2 n2 c2, .slice A3 n3 c3, .slice A4 n4 c4, .int .u64 (cnt : Int)] 27 (0, 0)) ∧ RowT W (w.heap.size + 1) (List.replicate 32 0) 0 ∧ W.heap[w.heap.size + 1 + 1]? = some (.cells #[.string ByteArray.empty, .slice none 0 0, .slice none 0 0, .slice none 0 0, .slice none 0 0, .int .u64 0] 27 (0, 0)) ∧ Below w.heap.size w W ∧ W2.heap.size ≤ W.heap.size ∧ RowT W g5 s cnt)
      (fun i v W => match i with
        | 0 => v = .pointer (some ⟨w.heap.size, 1, none⟩)
        | 1 => v = .slice A1 n1 c1
        | 2 => v = .pointer (some ⟨w.heap.size, 1, none⟩)
        | 3 => v = .slice A1 n1 c1
        | 4 => v = .int .i64 (n1 : Int)
        | 5 => v = .int .i64 ((min n1 200 : Nat) : Int)
        | 6 => v = .slice A1 (min n1 200) c1
        | 7 => v = .pointer (some ⟨w.heap.size, 2, none⟩)
        | 8 => v = .slice A2 n2 c2
        | 9 => v = .pointer (some ⟨w.heap.size, 2, none⟩)
        | 10 => v = .slice A2 n2 c2
        | 11 => v = .int .i64 (n2 : Int)
        | 12 => v = .int .i64 ((min n2 12 : Nat) : Int)
        | 13 => v = .slice A2 (min n2 12) c2
        | 14 => OwX W W2.heap.size v (min n2 12) ((xs.take (min n2 12)).map redX)
        | 15 => v = .pointer (some ⟨w.heap.size, 3, none⟩)
        | 16 => v = .slice A3 n3 c3
        | 17 => v = .pointer (some ⟨w.heap.size, 3, none⟩)
        | 18 => v = .slice A3 n3 c3
        | 19 => v = .int .i64 (n3 : Int)
        | 20 => v = .int .i64 ((min n3 12 : Nat) : Int)
        | 21 => v = .slice A3 (min n3 12) c3
        | _ => ∃ v1, v = .agg #[.string ByteArray.empty, .slice A1 (min n1 200) c1, v1, .slice A3 (min n3 12) c3, .slice none 0 0, .int .u64 0] ∧ OwX W W2.heap.size v1 (min n2 12) ((xs.take (min n2 12)).map redX)) 23 W2.heap.size 27 #[.string ByteArray.empty, .slice none 0 0, .slice none 0 0, .slice none 0 0, .slice none 0 0, .int .u64 0] (fun cs W => ∃ v, cs = #[.string ByteArray.empty, .slice A1 (min n1 200) c1, v, .slice A3 (min n3 12) c3, .slice none 0 0, .int .u64 0] ∧ OwX W W2.heap.size v (min n2 12) ((xs.take (min n2 12)).map redX))) (by kernel_rfl) (lexOK_of (by kernel_rfl) (by kernel_rfl)) (by kernel_rfl) (by kernel_rfl) (by kernel_rfl)
      ⟨⟨FW.out.1, FW.out.2.1, FW.out.2.2.1, FW.out.2.2.2.1.drew, Nat.le_refl _, F5.out⟩, fun i _ h => (by cases h), fun h => (by cases h), fun h => (by cases h)⟩ ?obl2 (fun m m' vs W he h => h.ext he) ?fin2
    case obl2 =>
      refine oblM_cons (fun m vs W hcs hm hdp hI => ?_) ?_
      · (try simp only [Nat.zero_add, Nat.reduceAdd, Act.put, List.setIfInBounds_toArray, List.set_cons_zero, List.set_cons_succ])
        have hW := hI.1
        exact hOpI_val (.pointer (some ⟨w.heap.size, 1, none⟩)) (exec_fN1 w.heap.size rfl rfl W) (hI.look (by decide) rfl)
      refine oblM_cons (fun m vs W hcs hm hdp hI => ?_) ?_
      · (try simp only [Nat.zero_add, Nat.reduceAdd, Act.put, List.setIfInBounds_toArray, List.set_cons_zero, List.set_cons_succ])
        have hW := hI.1
        have h0 : vs 0 = .pointer (some ⟨w.heap.size, 1, none⟩) := hI.2.1 0 (by decide) (hdp 0 (by kernel_rfl))
        exact hOpI_val (.slice A1 n1 c1) (exec_loadS (x := .tmp 13) ⟨w.heap.size, 1, none⟩ A1 n1 c1 (cells_at hW.1 1 rfl) rfl (by rw [h0]; rfl)) (hI.look (by decide) rfl)
      refine oblM_cons (fun m vs W hcs hm hdp hI => ?_) ?_
      · (try simp only [Nat.zero_add, Nat.reduceAdd, Act.put, List.setIfInBounds_toArray, List.set_cons_zero, List.set_cons_succ])
        have hW := hI.1
        exact hOpI_val (.pointer (some ⟨w.heap.size, 1, none⟩)) (exec_fN1 w.heap.size rfl rfl W) (hI.look (by decide) rfl)
      refine oblM_cons (fun m vs W hcs hm hdp hI => ?_) ?_
      · (try simp only [Nat.zero_add, Nat.reduceAdd, Act.put, List.setIfInBounds_toArray, List.set_cons_zero, List.set_cons_succ])
        have hW := hI.1
        have h2 : vs 2 = .pointer (some ⟨w.heap.size, 1, none⟩) := hI.2.1 2 (by decide) (hdp 2 (by kernel_rfl))
        exact hOpI_val (.slice A1 n1 c1) (exec_loadS (x := .tmp 15) ⟨w.heap.size, 1, none⟩ A1 n1 c1 (cells_at hW.1 1 rfl) rfl (by rw [h2]; rfl)) (hI.look (by decide) rfl)
      refine oblM_cons (fun m vs W hcs hm hdp hI => ?_) ?_
      · (try simp only [Nat.zero_add, Nat.reduceAdd, Act.put, List.setIfInBounds_toArray, List.set_cons_zero, List.set_cons_succ])
        have hW := hI.1
        have h3 : vs 3 = .slice A1 n1 c1 := hI.2.1 3 (by decide) (hdp 3 (by kernel_rfl))
        exact hOpI_val (.int .i64 (n1 : Int)) (exec_lenB (x := .tmp 16) A1 n1 c1 rfl (by rw [h3]; rfl) W) (hI.look (by decide) rfl)
      refine oblM_cons (fun m vs W hcs hm hdp hI => ?_) ?_
      · (try simp only [Nat.zero_add, Nat.reduceAdd, Act.put, List.setIfInBounds_toArray, List.set_cons_zero, List.set_cons_succ])
        have hW := hI.1
        have h4 : vs 4 = .int .i64 (n1 : Int) := hI.2.1 4 (by decide) (hdp 4 (by kernel_rfl))
        exact hOpI_val (.int .i64 ((min n1 200 : Nat) : Int)) (exec_minI (x := .tmp 17) 200 n1 rfl (by rw [h4]; rfl) rfl W) (hI.look (by decide) rfl)
      refine oblM_cons (fun m vs W hcs hm hdp hI => ?_) ?_
      · (try simp only [Nat.zero_add, Nat.reduceAdd, Act.put, List.setIfInBounds_toArray, List.set_cons_zero, List.set_cons_succ])
        have hW := hI.1
        have h1 : vs 1 = .slice A1 n1 c1 := hI.2.1 1 (by decide) (hdp 1 (by kernel_rfl))
        have h5 : vs 5 = .int .i64 ((min n1 200 : Nat) : Int) := hI.2.1 5 (by decide) (hdp 5 (by kernel_rfl))
        exact hOpI_val (.slice A1 (min n1 200) c1) (exec_cutB (x := .tmp 14) (y := .tmp 18) A1 n1 c1 (min n1 200) (by omega) rfl (by rw [h1]; rfl) (by rw [h5]; rfl) W) (hI.look (by decide) rfl)
      refine oblM_cons (fun m vs W hcs hm hdp hI => ?_) ?_
      · (try simp only [Nat.zero_add, Nat.reduceAdd, Act.put, List.setIfInBounds_toArray, List.set_cons_zero, List.set_cons_succ])
        have hW := hI.1
        exact hOpI_val (.pointer (some ⟨w.heap.size, 2, none⟩)) (exec_fN2 w.heap.size rfl rfl W) (hI.look (by decide) rfl)
      refine oblM_cons (fun m vs W hcs hm hdp hI => ?_) ?_
      · (try simp only [Nat.zero_add, Nat.reduceAdd, Act.put, List.setIfInBounds_toArray, List.set_cons_zero, List.set_cons_succ])
        have hW := hI.1
        have h7 : vs 7 = .pointer (some ⟨w.heap.size, 2, none⟩) := hI.2.1 7 (by decide) (hdp 7 (by kernel_rfl))
        exact hOpI_val (.slice A2 n2 c2) (exec_loadSX10 (x := .tmp 20) ⟨w.heap.size, 2, none⟩ A2 n2 c2 (cells_at hW.1 2 rfl) rfl (by rw [h7]; rfl)) (hI.look (by decide) rfl)
      refine oblM_cons (fun m vs W hcs hm hdp hI => ?_) ?_
      · (try simp only [Nat.zero_add, Nat.reduceAdd, Act.put, List.setIfInBounds_toArray, List.set_cons_zero, List.set_cons_succ])
        have hW := hI.1
        exact hOpI_val (.pointer (some ⟨w.heap.size, 2, none⟩)) (exec_fN2 w.heap.size rfl rfl W) (hI.look (by decide) rfl)
      refine oblM_cons (fun m vs W hcs hm hdp hI => ?_) ?_
      · (try simp only [Nat.zero_add, Nat.reduceAdd, Act.put, List.setIfInBounds_toArray, List.set_cons_zero, List.set_cons_succ])
        have hW := hI.1
        have h9 : vs 9 = .pointer (some ⟨w.heap.size, 2, none⟩) := hI.2.1 9 (by decide) (hdp 9 (by kernel_rfl))
        exact hOpI_val (.slice A2 n2 c2) (exec_loadSX10 (x := .tmp 22) ⟨w.heap.size, 2, none⟩ A2 n2 c2 (cells_at hW.1 2 rfl) rfl (by rw [h9]; rfl)) (hI.look (by decide) rfl)
      refine oblM_cons (fun m vs W hcs hm hdp hI => ?_) ?_
      · (try simp only [Nat.zero_add, Nat.reduceAdd, Act.put, List.setIfInBounds_toArray, List.set_cons_zero, List.set_cons_succ])
        have hW := hI.1
        have h10 : vs 10 = .slice A2 n2 c2 := hI.2.1 10 (by decide) (hdp 10 (by kernel_rfl))
        exact hOpI_val (.int .i64 (n2 : Int)) (exec_lenX10 (x := .tmp 23) A2 n2 c2 rfl (by rw [h10]; rfl) W) (hI.look (by decide) rfl)
      refine oblM_cons (fun m vs W hcs hm hdp hI => ?_) ?_
      · (try simp only [Nat.zero_add, Nat.reduceAdd, Act.put, List.setIfInBounds_toArray, List.set_cons_zero, List.set_cons_succ])
        have hW := hI.1
        have h11 : vs 11 = .int .i64 (n2 : Int) := hI.2.1 11 (by decide) (hdp 11 (by kernel_rfl))
        exact hOpI_val (.int .i64 ((min n2 12 : Nat) : Int)) (exec_minI (x := .tmp 24) 12 n2 rfl (by rw [h11]; rfl) rfl W) (hI.look (by decide) rfl)
      refine oblM_cons (fun m vs W hcs hm hdp hI => ?_) ?_
      · (try simp only [Nat.zero_add, Nat.reduceAdd, Act.put, List.setIfInBounds_toArray, List.set_cons_zero, List.set_cons_succ])
        have hW := hI.1
        have h8 : vs 8 = .slice A2 n2 c2 := hI.2.1 8 (by decide) (hdp 8 (by kernel_rfl))
        have h12 : vs 12 = .int .i64 ((min n2 12 : Nat) : Int) := hI.2.1 12 (by decide) (hdp 12 (by kernel_rfl))
        exact hOpI_val (.slice A2 (min n2 12) c2) (exec_cutX (x := .tmp 21) (y := .tmp 25) A2 n2 c2 (min n2 12) (by omega) rfl (by rw [h8]; rfl) (by rw [h12]; rfl) W) (hI.look (by decide) rfl)
      refine oblM_cons (fun m vs W hcs hm hdp hI => ?_) ?_
      · simp only [Nat.zero_add, Nat.reduceAdd, Act.put, List.setIfInBounds_toArray, List.set_cons_zero, List.set_cons_succ]
        have hW := hI.1
        have h13 : vs 13 = .slice A2 (min n2 12) c2 := hI.2.1 13 (by decide) (hdp 13 (by kernel_rfl))
        refine hOpI_of (hOp_call 30 Tryd.func30 (by kernel_rfl) (by kernel_rfl) _ _ #[.slice A2 (min n2 12) c2] rfl (by simp [Act.eval, h13]) ?_)
        refine (rmadeE_any A2 (min n2 12) c2 (xs.take (min n2 12)) W ((HS2.out.keep hW.2.2.2.1).take (by omega)) (by omega)).mono ?_
        rintro e W' ⟨v, rfl, ho, hb⟩
        exact ⟨v, rfl, hI.step HFK HGK (by decide) ((fun W W' h hb => ⟨heap_keep h.1 hb, h.2.1.keep hb, heap_keep h.2.2.1 hb, bel_step h.2.2.2.1 hb, Nat.le_trans h.2.2.2.2.1 hb.size, h.2.2.2.2.2.keep hb⟩) W W' hW hb) (ho.mono2 hW.2.2.2.2.1) hb⟩
      refine oblM_cons (fun m vs W hcs hm hdp hI => ?_) ?_
      · (try simp only [Nat.zero_add, Nat.reduceAdd, Act.put, List.setIfInBounds_toArray, List.set_cons_zero, List.set_cons_succ])
        have hW := hI.1
        exact hOpI_val (.pointer (some ⟨w.heap.size, 3, none⟩)) (exec_fN3 w.heap.size rfl rfl W) (hI.look (by decide) rfl)
      refine oblM_cons (fun m vs W hcs hm hdp hI => ?_) ?_
      · (try simp only [Nat.zero_add, Nat.reduceAdd, Act.put, List.setIfInBounds_toArray, List.set_cons_zero, List.set_cons_succ])
        have hW := hI.1
        have h15 : vs 15 = .pointer (some ⟨w.heap.size, 3, none⟩) := hI.2.1 15 (by decide) (hdp 15 (by kernel_rfl))
        exact hOpI_val (.slice A3 n3 c3) (exec_loadSI10 (x := .tmp 28) ⟨w.heap.size, 3, none⟩ A3 n3 c3 (cells_at hW.1 3 rfl) rfl (by rw [h15]; rfl)) (hI.look (by decide) rfl)
      refine oblM_cons (fun m vs W hcs hm hdp hI => ?_) ?_
      · (try simp only [Nat.zero_add, Nat.reduceAdd, Act.put, List.setIfInBounds_toArray, List.set_cons_zero, List.set_cons_succ])
        have hW := hI.1
        exact hOpI_val (.pointer (some ⟨w.heap.size, 3, none⟩)) (exec_fN3 w.heap.size rfl rfl W) (hI.look (by decide) rfl)
      refine oblM_cons (fun m vs W hcs hm hdp hI => ?_) ?_
      · (try simp only [Nat.zero_add, Nat.reduceAdd, Act.put, List.setIfInBounds_toArray, List.set_cons_zero, List.set_cons_succ])
        have hW := hI.1
        have h17 : vs 17 = .pointer (some ⟨w.heap.size, 3, none⟩) := hI.2.1 17 (by decide) (hdp 17 (by kernel_rfl))
        exact hOpI_val (.slice A3 n3 c3) (exec_loadSI10 (x := .tmp 30) ⟨w.heap.size, 3, none⟩ A3 n3 c3 (cells_at hW.1 3 rfl) rfl (by rw [h17]; rfl)) (hI.look (by decide) rfl)
      refine oblM_cons (fun m vs W hcs hm hdp hI => ?_) ?_
      · (try simp only [Nat.zero_add, Nat.reduceAdd, Act.put, List.setIfInBounds_toArray, List.set_cons_zero, List.set_cons_succ])
        have hW := hI.1
        have h18 : vs 18 = .slice A3 n3 c3 := hI.2.1 18 (by decide) (hdp 18 (by kernel_rfl))
        exact hOpI_val (.int .i64 (n3 : Int)) (exec_lenI10 (x := .tmp 31) A3 n3 c3 rfl (by rw [h18]; rfl) W) (hI.look (by decide) rfl)
      refine oblM_cons (fun m vs W hcs hm hdp hI => ?_) ?_
      · (try simp only [Nat.zero_add, Nat.reduceAdd, Act.put, List.setIfInBounds_toArray, List.set_cons_zero, List.set_cons_succ])
        have hW := hI.1
        have h19 : vs 19 = .int .i64 (n3 : Int) := hI.2.1 19 (by decide) (hdp 19 (by kernel_rfl))
        exact hOpI_val (.int .i64 ((min n3 12 : Nat) : Int)) (exec_minI (x := .tmp 32) 12 n3 rfl (by rw [h19]; rfl) rfl W) (hI.look (by decide) rfl)
      refine oblM_cons (fun m vs W hcs hm hdp hI => ?_) ?_
      · (try simp only [Nat.zero_add, Nat.reduceAdd, Act.put, List.setIfInBounds_toArray, List.set_cons_zero, List.set_cons_succ])
        have hW := hI.1
        have h16 : vs 16 = .slice A3 n3 c3 := hI.2.1 16 (by decide) (hdp 16 (by kernel_rfl))
        have h20 : vs 20 = .int .i64 ((min n3 12 : Nat) : Int) := hI.2.1 20 (by decide) (hdp 20 (by kernel_rfl))
        exact hOpI_val (.slice A3 (min n3 12) c3) (exec_cutI (x := .tmp 29) (y := .tmp 33) A3 n3 c3 (min n3 12) (by omega) rfl (by rw [h16]; rfl) (by rw [h20]; rfl) W) (hI.look (by decide) rfl)
      refine oblM_cons (fun m vs W hcs hm hdp hI => ?_) ?_
      · simp only [Nat.zero_add, Nat.reduceAdd, Act.put, List.setIfInBounds_toArray, List.set_cons_zero, List.set_cons_succ]
        have hW := hI.1
        have h6 : vs 6 = .slice A1 (min n1 200) c1 := hI.2.1 6 (by decide) (hdp 6 (by kernel_rfl))
        have h14 : OwX W W2.heap.size (vs 14) (min n2 12) ((xs.take (min n2 12)).map redX) := hI.2.1 14 (by decide) (hdp 14 (by kernel_rfl))
        have h21 : vs 21 = .slice A3 (min n3 12) c3 := hI.2.1 21 (by decide) (hdp 21 (by kernel_rfl))
        obtain ⟨B, f, e14⟩ := h14.form
        exact hOpI_val (.agg #[.string ByteArray.empty, .slice A1 (min n1 200) c1, (.slice B (min n2 12) f), .slice A3 (min n3 12) c3, .slice none 0 0, .int .u64 0]) (exec_buildN (x := .tmp 19) (y := .tmp 27) (z := .tmp 34) _ _ _ _ _ _ _ _ _ rfl (by rw [h6]; rfl) (by rw [e14]; rfl) (by rw [h21]; rfl) W) (hI.look (by decide) ⟨_, rfl, by rw [← e14]; exact h14⟩)
      refine oblM_cons (fun m vs W hcs hm hdp hI => ?_) ?_
      · simp only [Nat.zero_add, Nat.reduceAdd, Act.put, List.setIfInBounds_toArray, List.set_cons_zero, List.set_cons_succ]
        unfold hOpI
        rw [exec_allocN rfl W]
        exact hI.alloc HFK (fun W W' h hb => ⟨heap_keep h.1 hb, h.2.1.keep hb, heap_keep h.2.2.1 hb, bel_step h.2.2.2.1 hb, Nat.le_trans h.2.2.2.2.1 hb.size, h.2.2.2.2.2.keep hb⟩) (fun W h => h.2.2.2.2.1) hm
      refine oblM_cons (fun m vs W hcs hm hdp hI => ?_) ?_
      · simp only [Nat.zero_add, Nat.reduceAdd, Act.put, List.setIfInBounds_toArray, List.set_cons_zero, List.set_cons_succ]
        have hW := hI.1
        obtain ⟨v1, h22, ho⟩ := hI.2.1 22 (by decide) (hdp 22 (by kernel_rfl))
        have h22 : vs 22 = .agg #[.string ByteArray.empty, .slice A1 (min n1 200) c1, v1, .slice A3 (min n3 12) c3, .slice none 0 0, .int .u64 0] := h22
        obtain ⟨g, h23, hg, hr⟩ := hI.row hm (hdp 23 (by kernel_rfl))
        obtain ⟨B, f, e1⟩ := ho.form
        unfold hOpI
        rw [exec_storeRow (P := Tryd.prog) (x := .tmp 6) (y := .tmp 35) g #[.string ByteArray.empty, .slice none 0 0, .slice none 0 0, .slice none 0 0, .slice none 0 0, .int .u64 0] #[.string ByteArray.empty, .slice A1 (min n1 200) c1, v1, .slice A3 (min n3 12) c3, .slice none 0 0, .int .u64 0] rfl (by rw [h23]; rfl) (by rw [h22]; rfl) hr (by kernel_rfl) rfl (by rw [e1]; simp [Value.oneCell'])]
        have hfar : ∀ {v n ys}, OwX W W2.heap.size v n ys → OwX (W.setRow g #[.string ByteArray.empty, .slice A1 (min n1 200) c1, v1, .slice A3 (min n3 12) c3, .slice none 0 0, .int .u64 0]) W2.heap.size v n ys := fun h => h.same2 fun k cs hk h0 => heap_farRow h0 (fun e => by subst e; rw [hr] at h0; injection h0 with h0; injection h0 with _ h0; exact absurd h0 (by decide)) _
        exact hI.store (hdp 23 (by kernel_rfl)) g h23 hg hr ⟨heap_farRow hW.1 (by have := (Array.getElem?_eq_some_iff.1 FW.out.1).1; omega) _, heap_farRow hW.2.1 (by have := (Array.getElem?_eq_some_iff.1 FW.out.2.1).1; omega) _, heap_farRow hW.2.2.1 (by have := (Array.getElem?_eq_some_iff.1 FW.out.2.2.1).1; omega) _, bel_setRow hW.2.2.2.1 (by have := (Array.getElem?_eq_some_iff.1 FW.out.1).1; omega) _, by simpa [World.setRow] using hW.2.2.2.2.1, heap_farRow hW.2.2.2.2.2 (by have := (Array.getElem?_eq_some_iff.1 F5.out).1; omega) _⟩ (HSK _ _ hfar) ⟨_, rfl, hfar ho⟩ _
      trivial
    case fin2 =>
      intro m vs W3 hall hI
      obtain ⟨hW, _, g6, cs, h23, hg6, hr6, v, rfl, hv⟩ := hI.fin hall
      have hz1 := (Array.getElem?_eq_some_iff.1 FW.out.1).1
      have hz2 := (Array.getElem?_eq_some_iff.1 FW.out.2.1).1
      have hz4 := (Array.getElem?_eq_some_iff.1 FW.out.2.2.1).1
      have hz5 := (Array.getElem?_eq_some_iff.1 F5.out).1
      have hgg : g5 ≠ w.heap.size + 1 ∧ g5 ≠ w.heap.size + 1 + 1 := by omega
      have FX := Lib.hid hW
      have F6 := Lib.hid hr6
      have FV := Lib.hid hv
      clear hI hall hr6 hW hv HFK HSK HGK
      simp only [putsT, Nat.zero_add, Nat.reduceAdd, Act.put, List.setIfInBounds_toArray, List.set_cons_zero, List.set_cons_succ, h23]
      clear h23
      generalize vs 0 = v0, vs 1 = v1, vs 2 = v2, vs 3 = v3, vs 4 = v4, vs 5 = v5, vs 6 = v6, vs 7 = v7, vs 8 = v8, vs 9 = v9, vs 10 = v10, vs 11 = v11, vs 12 = v12, vs 13 = v13, vs 14 = v14, vs 15 = v15, vs 16 = v16, vs 17 = v17, vs 18 = v18, vs 19 = v19, vs 20 = v20, vs 21 = v21, vs 22 = v22, vs 24 = v24
      go_upto_region 3 with fail
      obtain ⟨x1, x2, x3, x4, x5, x6⟩ := FX.out
      refine wp_free (fun W => W.heap[w.heap.size]? = some (.cells #[.string ls, .slice A1 n1 c1, .slice A2 n2 c2, .slice A3 n3 c3, .slice A4 n4 c4, .int .u64 (cnt : Int)] 27 (0, 0)) ∧ RowT W g5 s cnt ∧ W.heap[g6]? = some (.cells #[.string ByteArray.empty, .slice A1 (min n1 200) c1, v, .slice A3 (min n3 12) c3, .slice none 0 0, .int .u64 0] 27 (0, 0)) ∧ OwX W W2.heap.size v (min n2 12) ((xs.take (min n2 12)).map redX) ∧ (∃ s0 c0, s0.length = 32 ∧ RowT W (w.heap.size + 1) s0 c0) ∧ (∃ cs : Array Value, cs.size = 6 ∧ W.heap[w.heap.size + 1 + 1]? = some (.cells cs 27 (0, 0))) ∧ Below w.heap.size w W)
        (fun i v' W => match i with
        | 0 => v' = .agg (trC s cnt)
        | 1 => v' = .pointer (some ⟨w.heap.size, 0, none⟩)
        | 2 => v' = .string ls
        | 3 => ∃ lb : ByteArray, v' = .string lb ∧ lb.size ≤ 32
        | 4 => v' = .agg #[.string ByteArray.empty, .slice A1 (min n1 200) c1, v, .slice A3 (min n3 12) c3, .slice none 0 0, .int .u64 0]
        | 5 => RowT W (w.heap.size + 1) s cnt
        | 6 => ∃ lb : ByteArray, v' = .string lb ∧ lb.size ≤ 32
        | _ => W.heap[w.heap.size + 1 + 1]? = some (.cells #[.string ByteArray.empty, .slice A1 (min n1 200) c1, v, .slice A3 (min n3 12) c3, .slice none 0 0, .int .u64 0] 27 (0, 0))) (by kernel_rfl) (lexOK_of (by kernel_rfl) (by kernel_rfl)) (by kernel_rfl) (by kernel_rfl) (by kernel_rfl)
        ⟨x1, x6, F6.out, FV.out, ⟨_, _, List.length_replicate, x2⟩, ⟨_, rfl, x3⟩, x4.drew⟩ ?obl3 ?fin3
      case obl3 =>
        refine ⟨fun vs W hI hF => ?_, fun vs W hI hF => ?_, fun vs W hI hF => ?_, fun vs W hI hF => ?_, fun vs W hI hF => ?_, fun vs W hI hF => ?_, fun vs W hI hF => ?_, fun vs W hI hF => ?_, trivial⟩
        · (try simp only [Nat.zero_add, Nat.reduceAdd, Act.put, List.setIfInBounds_toArray, List.set_cons_zero, List.set_cons_succ])
          unfold hOp
          rw [exec_loadT g5 s cnt hl hI.2.1 rfl rfl]
          exact ⟨hI, rfl, fun j u _ h => h⟩
        · simp only [Nat.zero_add, Nat.reduceAdd, Act.put, List.setIfInBounds_toArray, List.set_cons_zero, List.set_cons_succ]
          unfold hOp
          rw [exec_fN0 w.heap.size rfl rfl W]
          exact ⟨hI, rfl, fun j u _ h => h⟩
        · simp only [Nat.zero_add, Nat.reduceAdd, Act.put, List.setIfInBounds_toArray, List.set_cons_zero, List.set_cons_succ]
          have h1 : vs 1 = .pointer (some ⟨w.heap.size, 0, none⟩) := hF 1 (by kernel_rfl)
          unfold hOp
          rw [exec_loadStr (x := .tmp 37) ⟨w.heap.size, 0, none⟩ ls (cells_at hI.1 0 rfl) rfl (by rw [h1]; rfl)]
          exact ⟨hI, rfl, fun j u _ h => h⟩
        · simp only [Nat.zero_add, Nat.reduceAdd, Act.put, List.setIfInBounds_toArray, List.set_cons_zero, List.set_cons_succ]
          have h2 : vs 2 = .string ls := hF 2 (by kernel_rfl)
          refine hOp_call 38 Tryd.func38 (by kernel_rfl) (by kernel_rfl) _ _ #[.string ls] rfl (by simp [Act.eval, h2]) ?_
          refine (rlabel_any ls W).mono ?_
          rintro e _ ⟨⟨lb, hlb, rfl⟩, rfl⟩
          exact ⟨_, rfl, hI, ⟨lb, rfl, hlb⟩, fun j u _ h => h⟩
        · simp only [Nat.zero_add, Nat.reduceAdd, Act.put, List.setIfInBounds_toArray, List.set_cons_zero, List.set_cons_succ]
          unfold hOp
          rw [exec_loadN g6 _ rfl hI.2.2.1 rfl rfl]
          exact ⟨hI, rfl, fun j u _ h => h⟩
        · simp only [Nat.zero_add, Nat.reduceAdd, Act.put, List.setIfInBounds_toArray, List.set_cons_zero, List.set_cons_succ]
          have h0 : vs 0 = .agg (trC s cnt) := hF 0 (by kernel_rfl)
          obtain ⟨i1, i2, i3, i4, ⟨s0, c0, hs0, i5⟩, ⟨cs, hcs, i6⟩, i7⟩ := hI
          unfold hOp
          rw [exec_storeT (x := .tmp 2) (y := .tmp 36) (w.heap.size + 1) s0 c0 s cnt hs0 hl i5 rfl rfl (by rw [h0]; rfl)]
          refine ⟨⟨heap_farRow i1 (by omega) _, heap_farRow i2 (by omega) _, heap_farRow i3 (by omega) _, i4.same2 (fun k cs hk h0 => heap_farRow h0 (by omega) _), ⟨_, _, hl, i5.row s cnt⟩, ⟨cs, hcs, heap_farRow i6 (by omega) _⟩, bel_setRow i7 (by omega) _⟩, i5.row s cnt, fun j u hj h => ?_⟩
          match j, hj, h with
          | 0, _, h => exact h
          | 1, _, h => exact h
          | 2, _, h => exact h
          | 3, _, h => exact h
          | 4, _, h => exact h
          | 6, _, h => exact h
          | j + 7, _, h => exact heap_farRow h (by omega) _
        · simp only [Nat.zero_add, Nat.reduceAdd, Act.put, List.setIfInBounds_toArray, List.set_cons_zero, List.set_cons_succ]
          have h3 : ∃ lb : ByteArray, vs 3 = .string lb ∧ lb.size ≤ 32 := hF 3 (by kernel_rfl)
          unfold hOp
          exact ⟨hI, h3, fun j u _ h => h⟩
        · simp only [Nat.zero_add, Nat.reduceAdd, Act.put, List.setIfInBounds_toArray, List.set_cons_zero, List.set_cons_succ]
          have h4 : vs 4 = .agg #[.string ByteArray.empty, .slice A1 (min n1 200) c1, v, .slice A3 (min n3 12) c3, .slice none 0 0, .int .u64 0] := hF 4 (by kernel_rfl)
          obtain ⟨i1, i2, i3, i4, ⟨s0, c0, hs0, i5⟩, ⟨cs, hcs, i6⟩, i7⟩ := hI
          obtain ⟨B, f, e1⟩ := i4.form
          unfold hOp
          rw [exec_storeRow (P := Tryd.prog) (x := .tmp 4) (y := .tmp 40) (w.heap.size + 1 + 1) cs #[.string ByteArray.empty, .slice A1 (min n1 200) c1, v, .slice A3 (min n3 12) c3, .slice none 0 0, .int .u64 0] rfl rfl (by rw [h4]; rfl) i6 (by kernel_rfl) hcs (by rw [e1]; simp [Value.oneCell'])]
          refine ⟨⟨heap_farRow i1 (by omega) _, heap_farRow i2 (by omega) _, heap_farRow i3 (by omega) _, i4.same2 (fun k cs hk h0 => heap_farRow h0 (by omega) _), ⟨s0, c0, hs0, heap_farRow i5 (by omega) _⟩, ⟨_, rfl, heap_rowSet i6 _⟩, bel_setRow i7 (by omega) _⟩, heap_rowSet i6 _, fun j u hj h => ?_⟩
          match j, hj, h with
          | 0, _, h => exact h
          | 1, _, h => exact h
          | 2, _, h => exact h
          | 3, _, h => exact h
          | 4, _, h => exact h
          | 5, _, h => exact heap_farRow h (by omega) _
          | 6, _, h => exact h
          | j + 8, _, h => exact heap_rowSet i6 _
      case fin3 =>
        intro vs W hI hF
        have h5 := hF 5 (by decide)
        obtain ⟨lb, h6, hlb⟩ := hF 6 (by decide)
        have h6 : vs 6 = .string lb := h6
        have h7 := hF 7 (by decide)
        obtain ⟨_, _, _, i4, _, _, i7⟩ := hI
        clear hF
        simp only [putsT, Nat.zero_add, Nat.reduceAdd, Act.put, List.setIfInBounds_toArray, List.set_cons_zero, List.set_cons_succ, h6]
        go_wp2_with fail
        refine bodyPost_ret (v := .tuple #[.agg (trC s cnt), .string lb, .agg #[.string ByteArray.empty, .slice A1 (min n1 200) c1, v, .slice A3 (min n3 12) c3, .slice none 0 0, .int .u64 0]]) ?_ rfl ⟨lb, v, rfl, hlb, by have hq := i4.mono2 FW.out.2.2.2.1.size; first | exact hq | (rw [← List.map_take]; exact hq) | (rw [List.map_take] at hq; exact hq), i7⟩
        exact results_rtr rfl _ _ (w.heap.size + 1) (w.heap.size + 1 + 1) 32 27 _ _ _ _ _ rfl rfl rfl h5 h7 Tryd.underlying32 rfl (trC_info hl cnt) Tryd.underlying27 rfl (by kernel_rfl)
end Go.Proofs.YtcaoajeplinopaaDoor

namespace Go.Proofs.YtcaoajeplinopaaDoor
set_option linter.unusedVariables false
set_option linter.unusedSimpArgs false
set_option maxRecDepth 8000
open Go.RowKit
def tS : List Nat := shaN [97, 116, 116, 101, 115, 116, 111, 114, 0]
theorem tS_length : tS.length = 32 := shaN_length _
theorem tS_lt : ∀ x ∈ tS, x < 256 := shaN_lt _
theorem tS_hex : hexS tS = ⟨#[100, 52, 49, 102, 51, 55, 98, 51, 50, 49, 48, 98, 51, 57, 53, 100, 98, 48, 51, 50, 57, 57, 98, 100, 53, 51, 55, 52, 100, 97, 51, 53, 56, 98, 100, 51, 98, 51, 51, 99, 100, 100, 100, 98, 48, 100, 100, 99, 55, 57, 50, 50, 52, 55, 49, 56, 56, 52, 101, 49, 97, 53, 101, 98]⟩ := by kernel_rfl
def tA : ByteArray := ⟨#[97]⟩
def tM : ByteArray := ⟨#[109]⟩
def tX : ByteArray := ⟨#[120]⟩
theorem t_first : decide (leV (outT tS 2 tA 0) 0 % 18446744069414584321 = leV (outT tS 2 tA 1) 0 % 18446744069414584321) = false := by kernel_rfl
theorem t_abs : decide (shaN (tS ++ ([1, tM.size] ++ (bytS tM ++ (leN 1 ++ [7])))) = tS) = false := by kernel_rfl
theorem t_poss : ¬ PossT 4 5 := by decide
theorem t_pick (f : Nat → Nat) (hf : ∀ i, f i < 4) : pickT f 4 4 16384 = [0, 1, 2, 3] := by
  have hl : (pickT f 4 4 16384).length = 4 := pickT_length (Nat.le_refl _)
  have ha : ∀ i x, (pickT f 4 4 16384)[i]? = some x → x = i := fun i x h => pickT_all hf h
  refine List.ext_getElem? fun i => ?_
  rcases Nat.lt_or_ge i 4 with h | h
  · have h1 : (pickT f 4 4 16384)[i]? = some ((pickT f 4 4 16384)[i]'(by omega)) := List.getElem?_eq_getElem _
    rw [h1, ha i _ h1]
    have : i = 0 ∨ i = 1 ∨ i = 2 ∨ i = 3 := by omega
    rcases this with rfl | rfl | rfl | rfl <;> rfl
  · rw [List.getElem?_eq_none (by omega), List.getElem?_eq_none (by simpa using h)]
theorem t_count (f : Nat → Nat) : 1 ≤ lastC 0 (stopT f 4 16384) := by
  have h1 := stopT_ge (f := f) (n := 4) (K := 16384) (by omega)
  have h2 := stopT_le f 4 16384
  unfold lastC outsN
  omega
end Go.Proofs.YtcaoajeplinopaaDoor

namespace Go.Proofs.YtcaoajeplinopaaDoor
set_option linter.unusedVariables false
set_option linter.unusedSimpArgs false
set_option maxRecDepth 8000
open Go.RowKit
section
variable {ev : Operand → Value} {o : Oper}
theorem exec_eqU {x y : Operand} {t : TypeId} {w : World} (a b : Int) (h : a = b) (ho : o.op = .binOp .eql 25 x y t) (hx : ev x = .int .u64 a) (hy : ev y = .int .u64 b) : (execOp ev o).run Tryd.prog w = .ok (.value (.bool true)) w := by
  subst h
  unfold execOp
  simp only [ho, hx, hy]
  go_simp
theorem exec_geU {x y : Operand} {t : TypeId} {w : World} (a b : Int) (h : b ≤ a) (ho : o.op = .binOp .geq 25 x y t) (hx : ev x = .int .u64 a) (hy : ev y = .int .u64 b) : (execOp ev o).run Tryd.prog w = .ok (.value (.bool true)) w := by
  unfold execOp
  simp only [ho, hx, hy]
  go_simp
theorem exec_eqStr {x y : Operand} {t : TypeId} {w : World} (s : ByteArray) (ho : o.op = .binOp .eql 9 x y t) (hx : ev x = .string s) (hy : ev y = .string s) : (execOp ev o).run Tryd.prog w = .ok (.value (.bool true)) w := by
  unfold execOp
  simp only [ho, hx, hy]
  go_simp
end
theorem run_neX (a b c d : Int) (h : ¬ a = c) (w : World) : (binOp .neq 36 (.agg #[.int .u64 a, .int .u64 b]) (.agg #[.int .u64 c, .int .u64 d])).run Tryd.prog w = .ok (.bool true) w := by
  simp [go_sem, Tryd.underlying36, h]
theorem run_eqTr (s : List Nat) (c : Nat) (hl : s.length = 32) (hb : ∀ x ∈ s, x < 256) (w : World) : (binOp .eql 32 (.agg (trC s c)) (.agg (trC s c))).run Tryd.prog w = .ok (.bool true) w := by
  have h32 : (trC s c)[32]? = some (.int .u64 (c : Int)) := trC_count hl c
  have hx : (trC s c).extract 0 32 = ((s.map UInt8.ofNat).map Extern.Stop.cell).toArray := by
    rw [← celB_cell hb]
    unfold trC
    rw [List.extract_toArray]
    simp [List.extract, celB_length, hl]
  have he := run_equalIn_bytes (P := Tryd.prog) w 9997 30 5 32 Tryd.underlying30 Tryd.underlying5 (fun w => by kernel_rfl) (s.map UInt8.ofNat) (s.map UInt8.ofNat) (by rw [List.length_map, hl]) (by rw [List.length_map, hl])
  rw [← hx] at he
  simp [go_sem, Tryd.underlying32, he, h32, Result.andThen]
end Go.Proofs.YtcaoajeplinopaaDoor

