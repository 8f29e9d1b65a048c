/- Several texts in one: Trq, Trs, Trt, Tru, Trv, Trw. -/
import Derived.Test.YtcaoajeplinopaaDoorH11
namespace Go.Proofs.YtcaoajeplinopaaDoor
set_option linter.unusedVariables false
set_option linter.unusedSimpArgs false
set_option maxRecDepth 8000
open Go.RowKit Go.Maps
open Go.Shelf
attribute [local simp] z32_ne z32_run
attribute [-simp] Tryd.zeroValue30 Tryd.isAgg30 Tryd.sizeOf30
attribute [-simp] Tryd.zeroValue32 Tryd.isAgg32 Tryd.sizeOf32
attribute [local simp] z33_ne z33_run
attribute [local irreducible] wpList
/-- what can be drawn -/
def PossT (L C : Int) : Prop := 1 ≤ L ∧ L ≤ 65536 ∧ 0 ≤ C ∧ C ≤ 64 ∧ C ≤ L
instance (L C : Int) : Decidable (PossT L C) := by unfold PossT; infer_instance
set_option maxHeartbeats 1000000 in
theorem possible_any (L C : Int) (w : World) :
    Calls Tryd.prog 50 #[.agg #[.int .i64 L, .int .i64 C]] w fun e w' => e = .returned (.bool (decide (PossT L C))) ∧ Below w.heap.size w w' := by
  go_enter Tryd.func50, Tryd.ntmps50
  go_upto_region 1 with fail
  refine wp_named1 (fun V1 hb g0 hlt => ?_)
  have c0 : V1.cell? ⟨w.heap.size, 0, none⟩ = some (.int .i64 L) := cells_at g0 0 rfl
  have c1 : V1.cell? ⟨w.heap.size, 1, none⟩ = some (.int .i64 C) := cells_at g0 1 rfl
  clear g0
  by_cases h1 : 1 ≤ L
  · by_cases h2 : L ≤ 65536
    · by_cases h3 : 0 ≤ C
      · by_cases h4 : C ≤ 64
        · by_cases h5 : C ≤ L
          · have hp : decide (PossT L C) = true := decide_eq_true ⟨h1, h2, h3, h4, h5⟩
            go_wp2_with fail
            go_ret
            exact ⟨by first | rfl | (rw [hp]; rfl), hb⟩
          · have hp : decide (PossT L C) = false := decide_eq_false (fun h => h5 h.2.2.2.2)
            go_wp2_with fail
            go_ret
            exact ⟨by first | rfl | (rw [hp]; rfl), hb⟩
        · have hp : decide (PossT L C) = false := decide_eq_false (fun h => h4 h.2.2.2.1)
          go_wp2_with fail
          go_ret
          exact ⟨by first | rfl | (rw [hp]; rfl), hb⟩
      · have hp : decide (PossT L C) = false := decide_eq_false (fun h => h3 h.2.2.1)
        go_wp2_with fail
        go_ret
        exact ⟨by first | rfl | (rw [hp]; rfl), hb⟩
    · have hp : decide (PossT L C) = false := decide_eq_false (fun h => h2 h.2.1)
      go_wp2_with fail
      go_ret
      exact ⟨by first | rfl | (rw [hp]; rfl), hb⟩
  · have hp : decide (PossT L C) = false := decide_eq_false (fun h => h1 h.1)
    go_wp2_with fail
    go_ret
    exact ⟨by first | rfl | (rw [hp]; rfl), hb⟩
section
variable {ev : Operand → Value} {o : Oper}
theorem exec_loadDraw {x : Operand} {w : World} (g : Nat) (L C : Int) (hc : w.heap[g]? = some (.cells #[.int .i64 L, .int .i64 C] 47 (0, 0))) (ho : o.op = .load 47 x) (hx : ev x = .pointer (some ⟨g, 0, none⟩)) :
    (execOp ev o).run Tryd.prog w = .ok (.value (.agg #[.int .i64 L, .int .i64 C])) w := by
  unfold execOp
  simp only [ho, hx, Instr.loadAt, Instr.sureAddr, Sem.run_bind, Sem.run_pure, Result.andThen_ok]
  rw [run_loadVar_row w g 47 47 _ (0, 0) _ hc Tryd.underlying47 rfl (by kernel_rfl)]
  rfl
theorem exec_fD0 {x : Operand} (g : Nat) (ho : o.op = .fieldAddr 47 x 0) (hx : ev x = .pointer (some ⟨g, 0, none⟩)) (w : World) : (execOp ev o).run Tryd.prog w = .ok (.value (.pointer (some ⟨g, 0, none⟩))) w := by
  unfold execOp
  simp only [ho, hx]
  go_simp
theorem exec_fD1 {x : Operand} (g : Nat) (ho : o.op = .fieldAddr 47 x 1) (hx : ev x = .pointer (some ⟨g, 0, none⟩)) (w : World) : (execOp ev o).run Tryd.prog w = .ok (.value (.pointer (some ⟨g, 1, none⟩))) w := by
  unfold execOp
  simp only [ho, hx]
  go_simp
theorem exec_eqI {x y : Operand} {ty : TypeId} {w : World} (a b : Int) (t : Bool) (ht : decide (a = b) = t) (ho : o.op = .binOp .eql 3 x y ty) (hx : ev x = .int .i64 a) (hy : ev y = .int .i64 b) : (execOp ev o).run Tryd.prog w = .ok (.value (.bool t)) w := by
  unfold execOp
  simp only [ho, hx, hy]
  cases t
  · have h2 : ¬ a = b := of_decide_eq_false ht
    go_simp
  · have h2 : a = b := of_decide_eq_true ht
    rw [h2]
    go_simp
end
theorem exec_extract0 {ev : Operand → Value} {o : Oper} {x : Operand} (u v : Value) (ho : o.op = .extract x 0) (hx : ev x = .tuple #[u, v]) (w : World) : (execOp ev o).run Tryd.prog w = .ok (.value u) w := by
  unfold execOp
  simp only [ho, hx]
  rfl
theorem exec_extract1 {ev : Operand → Value} {o : Oper} {x : Operand} (u v : Value) (ho : o.op = .extract x 1) (hx : ev x = .tuple #[u, v]) (w : World) : (execOp ev o).run Tryd.prog w = .ok (.value v) w := by
  unfold execOp
  simp only [ho, hx]
  rfl
set_option maxHeartbeats 4000000 in
theorem indices_nil (s : List Nat) (c : Nat) (lb : ByteArray) (L C : Int) (hl : s.length = 32) (h : ¬ PossT L C ∨ C = 0) (w : World) :
    Calls Tryd.prog 26 #[.agg (trC s c), .string lb, .agg #[.int .i64 L, .int .i64 C]] w fun e w' => e = .returned (.tuple #[.agg (trC s c), .slice none 0 0]) ∧ Below w.heap.size w w' := by
  go_enter Tryd.func26, Tryd.ntmps26
  go_upto_region 1 with fail
  refine wp_named3 (fun V1 hb g0 g1 g2 hlt => ?_)
  have B1 := Lib.hid hb
  have F3 : Hid (RowT V1 w.heap.size s c) := Lib.hid g0
  have F5 : Hid (V1.heap[w.heap.size + 1]? = some (.cells #[.int .i64 L, .int .i64 C] 47 (0, 0))) := Lib.hid g1
  have F6 : Hid (RowT V1 (w.heap.size + 1 + 1) (List.replicate 32 0) 0) := Lib.hid g2
  clear g0 g1 g2 hb
  refine wp_region_lit ?_
  refine wpList_run (by kernel_rfl) (.agg #[.int .i64 L, .int .i64 C]) V1 (exec_loadDraw (w.heap.size + 1) L C F5.out rfl rfl) ?_
  simp only [ptr, Act.put, List.setIfInBounds_toArray, List.set_cons_zero, List.set_cons_succ]
  refine wpList_call (by kernel_rfl) 50 Tryd.func50 (by kernel_rfl) (by kernel_rfl) _ _ #[.agg #[.int .i64 L, .int .i64 C]] rfl (by kernel_rfl) ?_
  refine (possible_any L C V1).mono ?_
  rintro e V2 ⟨rfl, hb⟩
  have B2 := Lib.hid (bel_step B1.out hb)
  have G3 := Lib.hid (F3.out.keep hb)
  have G5 := Lib.hid (heap_keep F5.out hb)
  have G6 := Lib.hid (F6.out.keep hb)
  have hlt2 : w.heap.size + 1 + 1 < V2.heap.size := Nat.lt_of_lt_of_le hlt hb.size
  clear hb B1 F3 F5 F6
  refine ⟨_, rfl, ?_⟩
  by_cases hp : PossT L C
  · have h0 : C = 0 := h.resolve_left (fun e => e hp)
    rw [decide_eq_true hp]
    simp only [ptr, Act.put, List.setIfInBounds_toArray, List.set_cons_zero, List.set_cons_succ]
    refine wpList_run (by kernel_rfl) (.bool false) V2 (exec_not (x := .tmp 9) true rfl rfl V2) ?_
    simp only [ptr, Act.put, List.setIfInBounds_toArray, List.set_cons_zero, List.set_cons_succ]
    refine wpList_run (by kernel_rfl) (.bool false) V2 rfl ?_
    simp only [ptr, Act.put, List.setIfInBounds_toArray, List.set_cons_zero, List.set_cons_succ]
    refine wpList_run (by kernel_rfl) (.pointer (some ⟨w.heap.size + 1, 1, none⟩)) V2 (exec_fD1 (w.heap.size + 1) rfl rfl V2) ?_
    simp only [ptr, Act.put, List.setIfInBounds_toArray, List.set_cons_zero, List.set_cons_succ]
    refine wpList_run (by kernel_rfl) (.int .i64 C) V2 (exec_loadInt ⟨w.heap.size + 1, 1, none⟩ C (cells_at G5.out 1 rfl) rfl rfl) ?_
    simp only [ptr, Act.put, List.setIfInBounds_toArray, List.set_cons_zero, List.set_cons_succ]
    refine wpList_run (by kernel_rfl) (.bool true) V2 (exec_eqI (x := .tmp 13) (y := .const (.int .i64 0)) C 0 true (decide_eq_true h0) rfl rfl rfl) ?_
    simp only [ptr, Act.put, List.setIfInBounds_toArray, List.set_cons_zero, List.set_cons_succ]
    refine wpList_run (by kernel_rfl) (.bool true) V2 rfl ?_
    simp only [ptr, Act.put, List.setIfInBounds_toArray, List.set_cons_zero, List.set_cons_succ]
    refine wpList_nil ?_
    go_upto_region 2 with fail
    refine wp_region_lit ?_
    refine wpList_run (by kernel_rfl) (.agg (trC s c)) V2 (exec_loadT w.heap.size s c hl G3.out rfl rfl) ?_
    simp only [ptr, Act.put, List.setIfInBounds_toArray, List.set_cons_zero, List.set_cons_succ]
    refine wpList_run0 (by kernel_rfl) _ (exec_storeT (w.heap.size + 1 + 1) (List.replicate 32 0) 0 s c List.length_replicate hl G6.out rfl rfl rfl) ?_
    simp only [ptr, Act.put, List.setIfInBounds_toArray, List.set_cons_zero, List.set_cons_succ]
    refine wpList_run (by kernel_rfl) (.slice none 0 0) _ rfl ?_
    simp only [ptr, Act.put, List.setIfInBounds_toArray, List.set_cons_zero, List.set_cons_succ]
    refine wpList_nil ?_
    go_wp2_with fail
    refine bodyPost_ret (v := .tuple #[.agg (trC s c), .slice none 0 0]) ?_ rfl ⟨rfl, bel_setRow B2.out (by omega) _⟩
    exact results_row_tmp rfl _ _ (w.heap.size + 1 + 1) 32 _ (0, 0) _ _ rfl rfl (G6.out.row s c) Tryd.underlying32 rfl (trC_info hl c)
  · rw [decide_eq_false hp]
    simp only [ptr, Act.put, List.setIfInBounds_toArray, List.set_cons_zero, List.set_cons_succ]
    refine wpList_run (by kernel_rfl) (.bool true) V2 (exec_not (x := .tmp 9) false rfl rfl V2) ?_
    simp only [ptr, Act.put, List.setIfInBounds_toArray, List.set_cons_zero, List.set_cons_succ]
    refine wpList_run (by kernel_rfl) (.bool true) V2 rfl ?_
    simp only [ptr, Act.put, List.setIfInBounds_toArray, List.set_cons_zero, List.set_cons_succ]
    refine wpList_skip (by kernel_rfl) ?_
    simp only [ptr, Act.put, List.setIfInBounds_toArray, List.set_cons_zero, List.set_cons_succ]
    refine wpList_skip (by kernel_rfl) ?_
    simp only [ptr, Act.put, List.setIfInBounds_toArray, List.set_cons_zero, List.set_cons_succ]
    refine wpList_skip (by kernel_rfl) ?_
    simp only [ptr, Act.put, List.setIfInBounds_toArray, List.set_cons_zero, List.set_cons_succ]
    refine wpList_run (by kernel_rfl) (.bool true) V2 rfl ?_
    simp only [ptr, Act.put, List.setIfInBounds_toArray, List.set_cons_zero, List.set_cons_succ]
    refine wpList_nil ?_
    go_upto_region 2 with fail
    refine wp_region_lit ?_
    refine wpList_run (by kernel_rfl) (.agg (trC s c)) V2 (exec_loadT w.heap.size s c hl G3.out rfl rfl) ?_
    simp only [ptr, Act.put, List.setIfInBounds_toArray, List.set_cons_zero, List.set_cons_succ]
    refine wpList_run0 (by kernel_rfl) _ (exec_storeT (w.heap.size + 1 + 1) (List.replicate 32 0) 0 s c List.length_replicate hl G6.out rfl rfl rfl) ?_
    simp only [ptr, Act.put, List.setIfInBounds_toArray, List.set_cons_zero, List.set_cons_succ]
    refine wpList_run (by kernel_rfl) (.slice none 0 0) _ rfl ?_
    simp only [ptr, Act.put, List.setIfInBounds_toArray, List.set_cons_zero, List.set_cons_succ]
    refine wpList_nil ?_
    go_wp2_with fail
    refine bodyPost_ret (v := .tuple #[.agg (trC s c), .slice none 0 0]) ?_ rfl ⟨rfl, bel_setRow B2.out (by omega) _⟩
    exact results_row_tmp rfl _ _ (w.heap.size + 1 + 1) 32 _ (0, 0) _ _ rfl rfl (G6.out.row s c) Tryd.underlying32 rfl (trC_info hl c)
set_option maxHeartbeats 8000000 in
theorem indices_any (s : List Nat) (c : Nat) (lb : ByteArray) (l n : Nat) (hl : s.length = 32) (hsb : ∀ x ∈ s, x < 256) (hc : c < 18446744073709551616) (hlb : lb.size ≤ 200) (hL1 : 1 ≤ l) (hL : l ≤ 65536) (hn1 : 1 ≤ n) (hn64 : n ≤ 64) (hnL : n ≤ l) (w : World) (hG : Gl w)
    (f : Nat → Nat) (hf : cdF s lb c l = f) (R : List Nat) (hR : pickT f n l 16384 = R) (c' : Nat) (hc' : lastC c (stopT f n 16384) = c') (L C : Int) (hLl : (l : Int) = L) (hCn : (n : Int) = C) :
    Calls Tryd.prog 26 #[.agg (trC s c), .string lb, .agg #[.int .i64 L, .int .i64 C]] w fun e w' => ∃ v, e = .returned (.tuple #[.agg (trC s c'), v]) ∧ OwZ w' w.heap.size v n (R.map fun x : Nat => (x : Int)) ∧ Below w.heap.size w w' := by
  have hp : PossT L C := by unfold PossT; omega
  have h0 : ¬ C = 0 := by omega
  have HSB := Lib.hid hsb
  have HG := Lib.hid hG
  have HF := Lib.hid hf
  have HR := Lib.hid hR
  have HC := Lib.hid hc'
  clear hsb hG hf hR hc'
  go_enter Tryd.func26, Tryd.ntmps26
  go_upto_region 1 with fail
  refine wp_named3 (fun V1 hb g0 g1 g2 hlt => ?_)
  have B1 := Lib.hid hb
  have F3 : Hid (RowT V1 w.heap.size s c) := Lib.hid g0
  have F5 : Hid (V1.heap[w.heap.size + 1]? = some (.cells #[.int .i64 L, .int .i64 C] 47 (0, 0))) := Lib.hid g1
  have F6 : Hid (RowT V1 (w.heap.size + 1 + 1) (List.replicate 32 0) 0) := Lib.hid g2
  clear g0 g1 g2 hb
  refine wp_region_lit ?_
  refine wpList_run (by kernel_rfl) (.agg #[.int .i64 L, .int .i64 C]) V1 (exec_loadDraw (w.heap.size + 1) L C F5.out rfl rfl) ?_
  simp only [ptr, Act.put, List.setIfInBounds_toArray, List.set_cons_zero, List.set_cons_succ]
  refine wpList_call (by kernel_rfl) 50 Tryd.func50 (by kernel_rfl) (by kernel_rfl) _ _ #[.agg #[.int .i64 L, .int .i64 C]] rfl (by kernel_rfl) ?_
  refine (possible_any L C V1).mono ?_
  rintro e V2 ⟨rfl, hb⟩
  have B2 := Lib.hid (bel_step B1.out hb)
  have G3 := Lib.hid (F3.out.keep hb)
  have G5 := Lib.hid (heap_keep F5.out hb)
  have G6 := Lib.hid (F6.out.keep hb)
  have hlt2 : w.heap.size + 1 + 1 < V2.heap.size := Nat.lt_of_lt_of_le hlt hb.size
  clear hb B1 F3 F5 F6
  refine ⟨_, rfl, ?_⟩
  rw [decide_eq_true hp]
  simp only [ptr, Act.put, List.setIfInBounds_toArray, List.set_cons_zero, List.set_cons_succ]
  refine wpList_run (by kernel_rfl) (.bool false) V2 (exec_not (x := .tmp 9) true rfl rfl V2) ?_
  simp only [ptr, Act.put, List.setIfInBounds_toArray, List.set_cons_zero, List.set_cons_succ]
  refine wpList_run (by kernel_rfl) (.bool false) V2 rfl ?_
  simp only [ptr, Act.put, List.setIfInBounds_toArray, List.set_cons_zero, List.set_cons_succ]
  refine wpList_run (by kernel_rfl) (.pointer (some ⟨w.heap.size + 1, 1, none⟩)) V2 (exec_fD1 (w.heap.size + 1) rfl rfl V2) ?_
  simp only [ptr, Act.put, List.setIfInBounds_toArray, List.set_cons_zero, List.set_cons_succ]
  refine wpList_run (by kernel_rfl) (.int .i64 C) V2 (exec_loadInt ⟨w.heap.size + 1, 1, none⟩ C (cells_at G5.out 1 rfl) rfl rfl) ?_
  simp only [ptr, Act.put, List.setIfInBounds_toArray, List.set_cons_zero, List.set_cons_succ]
  refine wpList_run (by kernel_rfl) (.bool false) V2 (exec_eqI (x := .tmp 13) (y := .const (.int .i64 0)) C 0 false (decide_eq_false h0) rfl rfl rfl) ?_
  simp only [ptr, Act.put, List.setIfInBounds_toArray, List.set_cons_zero, List.set_cons_succ]
  refine wpList_run (by kernel_rfl) (.bool false) V2 rfl ?_
  simp only [ptr, Act.put, List.setIfInBounds_toArray, List.set_cons_zero, List.set_cons_succ]
  refine wpList_nil ?_
  go_upto_region 3 with fail
  refine wp_free (fun W => RowT W w.heap.size s c ∧ W.heap[w.heap.size + 1]? = some (.cells #[.int .i64 L, .int .i64 C] 47 (0, 0)) ∧ (∃ s0 c0, s0.length = 32 ∧ RowT W (w.heap.size + 1 + 1) s0 c0) ∧ Below w.heap.size w W ∧ V2.heap.size ≤ W.heap.size)
    (fun i v W => match i with
      | 0 => v = .agg (trC s c)
      | 1 => v = .agg (trC s c)
      | 2 => v = .string lb
      | 3 => v = .pointer (some ⟨w.heap.size + 1, 0, none⟩)
      | 4 => v = .int .i64 L
      | 5 => ∃ b b1 b2, v = .func (.func 61) #[] #[.pointer (some ⟨b, 0, none⟩), .pointer (some ⟨b1, 0, none⟩), .pointer (some ⟨b2, 0, none⟩)] ∧ V2.heap.size ≤ b ∧ V2.heap.size ≤ b1 ∧ V2.heap.size ≤ b2 ∧ RowT W b s c ∧ One W b1 9 (.string lb) ∧ One W b2 3 (.int .i64 (l : Int))
      | 6 => v = .pointer (some ⟨w.heap.size + 1, 1, none⟩)
      | 7 => v = .int .i64 C
      | 8 => ∃ v0, v = .tuple #[.agg (trC s c'), v0] ∧ OwZ W V2.heap.size v0 n (R.map fun x : Nat => (x : Int))
      | 9 => v = .agg (trC s c')
      | 10 => OwZ W V2.heap.size v n (R.map fun x : Nat => (x : Int))
      | 11 => RowT W (w.heap.size + 1 + 1) s c'
      | _ => OwZ W V2.heap.size v n (R.map fun x : Nat => (x : Int))) (by kernel_rfl) (lexOK_of (by kernel_rfl) (by kernel_rfl)) (by kernel_rfl) (by kernel_rfl) (by kernel_rfl)
    ⟨G3.out, G5.out, ⟨_, _, List.length_replicate, G6.out⟩, B2.out.drew, Nat.le_refl _⟩ ?obl ?fin
  case obl =>
      refine ⟨fun vs W hI hF => ?_, fun vs W hI hF => ?_, fun vs W hI hF => ?_, fun vs W hI hF => ?_, fun vs W hI hF => ?_, fun vs W hI hF => ?_, fun vs W hI hF => ?_, fun vs W hI hF => ?_, fun vs W hI hF => ?_, fun vs W hI hF => ?_, fun vs W hI hF => ?_, fun vs W hI hF => ?_, fun vs W hI hF => ?_, trivial⟩
      · (try simp only [Nat.zero_add, Nat.reduceAdd, Act.put, List.setIfInBounds_toArray, List.set_cons_zero, List.set_cons_succ])
        unfold hOp
        rw [exec_loadT w.heap.size s c hl hI.1 rfl rfl]
        exact ⟨hI, rfl, fun j u _ h => h⟩
      · (try simp only [Nat.zero_add, Nat.reduceAdd, Act.put, List.setIfInBounds_toArray, List.set_cons_zero, List.set_cons_succ])
        unfold hOp
        rw [exec_loadT w.heap.size s c hl hI.1 rfl rfl]
        exact ⟨hI, rfl, fun j u _ h => h⟩
      · (try simp only [Nat.zero_add, Nat.reduceAdd, Act.put, List.setIfInBounds_toArray, List.set_cons_zero, List.set_cons_succ])
        unfold hOp
        exact ⟨hI, rfl, fun j u _ h => h⟩
      · (try simp only [Nat.zero_add, Nat.reduceAdd, Act.put, List.setIfInBounds_toArray, List.set_cons_zero, List.set_cons_succ])
        unfold hOp
        rw [exec_fD0 (w.heap.size + 1) rfl rfl W]
        exact ⟨hI, rfl, fun j u _ h => h⟩
      · (try simp only [Nat.zero_add, Nat.reduceAdd, Act.put, List.setIfInBounds_toArray, List.set_cons_zero, List.set_cons_succ])
        have h3 : vs 3 = .pointer (some ⟨w.heap.size + 1, 0, none⟩) := hF 3 (by kernel_rfl)
        unfold hOp
        rw [exec_loadInt (x := .tmp 20) ⟨w.heap.size + 1, 0, none⟩ L (cells_at hI.2.1 0 rfl) rfl (by rw [h3]; rfl)]
        exact ⟨hI, rfl, fun j u _ h => h⟩
      · simp only [Nat.zero_add, Nat.reduceAdd, Act.put, List.setIfInBounds_toArray, List.set_cons_zero, List.set_cons_succ]
        have h1 : vs 1 = .agg (trC s c) := hF 1 (by kernel_rfl)
        have h2 : vs 2 = .string lb := hF 2 (by kernel_rfl)
        have h4 : vs 4 = .int .i64 (l : Int) := by rw [hLl]; exact hF 4 (by kernel_rfl)
        refine hOp_call 52 Tryd.func52 (by kernel_rfl) (by kernel_rfl) _ _ #[.agg (trC s c), .string lb, .int .i64 (l : Int)] rfl (by simp [Act.eval, h1, h2, h4]) ?_
        obtain ⟨i1, i2, ⟨s0, c0, hs0, i3⟩, i4, i5⟩ := hI
        refine (candidates_any s c lb l W).mono ?_
        rintro e W' ⟨b, b1, b2, rfl, k, k1, k2, r, r1, r2, hb⟩
        refine ⟨_, rfl, ⟨i1.keep hb, heap_keep i2 hb, ⟨s0, c0, hs0, i3.keep hb⟩, bel_step i4 hb, Nat.le_trans i5 hb.size⟩, ⟨b, b1, b2, rfl, Nat.le_trans i5 k, Nat.le_trans i5 k1, Nat.le_trans i5 k2, r, r1, r2⟩, fun j u hj h => ?_⟩
        match j, hj, h with
        | 0, _, h => exact h
        | 1, _, h => exact h
        | 2, _, h => exact h
        | 3, _, h => exact h
        | 4, _, h => exact h
        | 6, _, h => exact h
        | 7, _, h => exact h
        | 8, _, ⟨v0, e, h⟩ => exact ⟨v0, e, h.keep hb⟩
        | 9, _, h => exact h
        | 10, _, h => exact OwZ.keep h hb
        | 11, _, h => exact RowT.keep h hb
        | j + 12, _, h => exact OwZ.keep h hb
      · (try simp only [Nat.zero_add, Nat.reduceAdd, Act.put, List.setIfInBounds_toArray, List.set_cons_zero, List.set_cons_succ])
        unfold hOp
        rw [exec_fD1 (w.heap.size + 1) rfl rfl W]
        exact ⟨hI, rfl, fun j u _ h => h⟩
      · (try simp only [Nat.zero_add, Nat.reduceAdd, Act.put, List.setIfInBounds_toArray, List.set_cons_zero, List.set_cons_succ])
        have h6 : vs 6 = .pointer (some ⟨w.heap.size + 1, 1, none⟩) := hF 6 (by kernel_rfl)
        unfold hOp
        rw [exec_loadInt (x := .tmp 23) ⟨w.heap.size + 1, 1, none⟩ C (cells_at hI.2.1 1 rfl) rfl (by rw [h6]; rfl)]
        exact ⟨hI, rfl, fun j u _ h => h⟩
      · simp only [Nat.zero_add, Nat.reduceAdd, Act.put, List.setIfInBounds_toArray, List.set_cons_zero, List.set_cons_succ]
        have h0 : vs 0 = .agg (trC s c) := hF 0 (by kernel_rfl)
        obtain ⟨b, b1, b2, h5, k, k1, k2, r, r1, r2⟩ := hF 5 (by kernel_rfl)
        have h5 : vs 5 = .func (.func 61) #[] #[.pointer (some ⟨b, 0, none⟩), .pointer (some ⟨b1, 0, none⟩), .pointer (some ⟨b2, 0, none⟩)] := h5
        have h7 : vs 7 = .int .i64 (n : Int) := by rw [hCn]; exact hF 7 (by kernel_rfl)
        refine hOp_call 51 Tryd.func51 (by kernel_rfl) (by kernel_rfl) _ _ #[.agg (trC s c), .func (.func 61) #[] #[.pointer (some ⟨b, 0, none⟩), .pointer (some ⟨b1, 0, none⟩), .pointer (some ⟨b2, 0, none⟩)], .int .i64 (n : Int)] rfl (by simp [Act.eval, h0, h5, h7]) ?_
        obtain ⟨i1, i2, ⟨s0, c0, hs0, i3⟩, i4, i5⟩ := hI
        refine (pick_any s c lb l n b b1 b2 hl HSB.out hc hlb hL1 hL hn1 hnL (by omega) W (HG.out.keep i4) r r1 r2 f HF.out R HR.out c' HC.out).mono ?_
        rintro e W' ⟨v, rfl, ho, hb⟩
        refine ⟨_, rfl, ⟨i1.keep hb, heap_keep i2 hb, ⟨s0, c0, hs0, i3.keep hb⟩, bel_step i4 hb, Nat.le_trans i5 hb.size⟩, ⟨v, rfl, ho.mono i5⟩, fun j u hj h => ?_⟩
        match j, hj, h with
        | 0, _, h => exact h
        | 1, _, h => exact h
        | 2, _, h => exact h
        | 3, _, h => exact h
        | 4, _, h => exact h
        | 5, _, ⟨b, b1, b2, e, k, k1, k2, r, r1, r2⟩ => exact ⟨b, b1, b2, e, k, k1, k2, r.keep hb, r1.keep hb, r2.keep hb⟩
        | 6, _, h => exact h
        | 7, _, h => exact h
        | 9, _, h => exact h
        | 10, _, h => exact OwZ.keep h hb
        | 11, _, h => exact RowT.keep h hb
        | j + 12, _, h => exact OwZ.keep h hb
      · simp only [Nat.zero_add, Nat.reduceAdd, Act.put, List.setIfInBounds_toArray, List.set_cons_zero, List.set_cons_succ]
        obtain ⟨v0, h8, ho⟩ := hF 8 (by kernel_rfl)
        have h8 : vs 8 = .tuple #[.agg (trC s c'), v0] := h8
        unfold hOp
        rw [exec_extract0 (x := .tmp 25) (.agg (trC s c')) v0 rfl (by rw [h8]; rfl) W]
        exact ⟨hI, rfl, fun j u _ h => h⟩
      · simp only [Nat.zero_add, Nat.reduceAdd, Act.put, List.setIfInBounds_toArray, List.set_cons_zero, List.set_cons_succ]
        obtain ⟨v0, h8, ho⟩ := hF 8 (by kernel_rfl)
        have h8 : vs 8 = .tuple #[.agg (trC s c'), v0] := h8
        unfold hOp
        rw [exec_extract1 (x := .tmp 25) (.agg (trC s c')) v0 rfl (by rw [h8]; rfl) W]
        exact ⟨hI, ho, fun j u _ h => h⟩
      · simp only [Nat.zero_add, Nat.reduceAdd, Act.put, List.setIfInBounds_toArray, List.set_cons_zero, List.set_cons_succ]
        have h9 : vs 9 = .agg (trC s c') := hF 9 (by kernel_rfl)
        obtain ⟨i1, i2, ⟨s0, c0, hs0, i3⟩, i4, i5⟩ := hI
        unfold hOp
        rw [exec_storeT (x := .tmp 6) (y := .tmp 26) (w.heap.size + 1 + 1) s0 c0 s c' hs0 hl i3 rfl rfl (by rw [h9]; rfl)]
        refine ⟨⟨heap_farRow i1 (by omega) _, heap_farRow i2 (by omega) _, ⟨_, _, hl, i3.row s c'⟩, bel_setRow i4 (by omega) _, by simpa [World.setRow] using i5⟩, i3.row s c', fun j u hj h => ?_⟩
        match j, hj, h with
        | 0, _, h => exact h
        | 1, _, h => exact h
        | 2, _, h => exact h
        | 3, _, h => exact h
        | 4, _, h => exact h
        | 5, _, ⟨b, b1, b2, e, k, k1, k2, r, r1, r2⟩ => exact ⟨b, b1, b2, e, k, k1, k2, heap_farRow r (by omega) _, heap_farRow r1 (by omega) _, heap_farRow r2 (by omega) _⟩
        | 6, _, h => exact h
        | 7, _, h => exact h
        | 8, _, ⟨v0, e, h⟩ => exact ⟨v0, e, OwZ.same h (fun g cs hg h0 => heap_farRow h0 (by omega) _)⟩
        | 9, _, h => exact h
        | 10, _, h => exact OwZ.same h (fun g cs hg h0 => heap_farRow h0 (by omega) _)
        | j + 12, _, h => exact OwZ.same h (fun g cs hg h0 => heap_farRow h0 (by omega) _)
      · simp only [Nat.zero_add, Nat.reduceAdd, Act.put, List.setIfInBounds_toArray, List.set_cons_zero, List.set_cons_succ]
        have h10 : OwZ W V2.heap.size (vs 10) n (R.map fun x : Nat => (x : Int)) := hF 10 (by kernel_rfl)
        unfold hOp
        exact ⟨hI, h10, fun j u _ h => h⟩
  case fin =>
    intro vs W hI hF
    have h11 := hF 11 (by decide)
    have h12 := hF 12 (by decide)
    obtain ⟨_, _, _, i4, _⟩ := hI
    clear hF
    simp only [putsT, Nat.zero_add, Nat.reduceAdd, Act.put, List.setIfInBounds_toArray, List.set_cons_zero, List.set_cons_succ]
    generalize vs 0 = v0, vs 1 = v1, vs 2 = v2, vs 3 = v3, vs 4 = v4, vs 5 = v5, vs 6 = v6, vs 7 = v7, vs 8 = v8, vs 9 = v9, vs 10 = v10, vs 11 = v11, vs 12 = v12 at *
    go_wp2_with fail
    refine bodyPost_ret (v := .tuple #[.agg (trC s c'), v12]) ?_ rfl ⟨v12, rfl, OwZ.mono h12 (by omega), i4⟩
    exact results_row_tmp rfl _ _ (w.heap.size + 1 + 1) 32 _ (0, 0) _ _ rfl rfl h11 Tryd.underlying32 rfl (trC_info hl c')
end Go.Proofs.YtcaoajeplinopaaDoor

namespace Go.Proofs.YtcaoajeplinopaaDoor
set_option linter.unusedVariables false
set_option linter.unusedSimpArgs false
set_option maxRecDepth 8000
open Go.RowKit
open Go.Shelf
attribute [local simp] z32_ne z32_run
attribute [-simp] Tryd.zeroValue30 Tryd.isAgg30 Tryd.sizeOf30
attribute [-simp] Tryd.zeroValue32 Tryd.isAgg32 Tryd.sizeOf32
attribute [local simp] z33_ne z33_run
attribute [local irreducible] wpList
/-- elements of the extension field that lie in variables stay -/
def KeepE (w w' : World) : Prop := ∀ (X : Nat) (cs : Array Value), w.heap[X]? = some (Obj.cells cs 36 (0, 0)) → w'.heap[X]? = some (Obj.cells cs 36 (0, 0))
theorem OwB.rowE {w : World} {base n : Nat} {v : Value} {bs : List Nat} (h : OwB w base v n bs) {b : Nat} (hb : v.ownBlock = some b) : ∃ cur, w.heap[b]? = some (.cells cur 5 (0, 0)) := by
  rcases h.1.2 with ⟨h1, _⟩ | ⟨g, cap, cur, h1, _, hg, _⟩
  · rw [h1] at hb; cases hb
  · rw [h1] at hb
    injection hb with hb
    exact ⟨cur, hb ▸ hg⟩
theorem KeepE.alloc {w wr : World} (h : KeepE w wr) (o : Obj) : KeepE w (wr.alloc o) := fun X cs h0 => heap_old o (h X cs h0)
theorem KeepE.app {w wr w2 : World} {base n : Nat} {v : Value} {bs : List Nat} (h : KeepE w wr) (ho : OwB wr base v n bs) (hg : wr.grownBy w2 v.ownBlock) : KeepE w w2 := fun X cs h0 => by
  have h1 := h X cs h0
  refine (hg.block X (Array.getElem?_eq_some_iff.1 h1).1 fun e => ?_).trans h1
  obtain ⟨cur, h2⟩ := ho.rowE e.symm
  rw [h1] at h2
  injection h2 with h2
  injection h2 with _ h3
  exact absurd h3 (by decide)
theorem wpList_appendB2 {ops : Array Oper} {rest : List Oper} {o : Oper} {a : Act} {Q : Exit → Act → World → Prop} {w : World} (hgd : o.guard = none) (s x : Operand)
    (ho : o.op = .call { callee := .builtin .append, args := #[s, x], argTypes := #[22, 22] }) (base : Nat) (v : Value) (n : Nat) (bs : List Nat) (hs : a.eval s = v) (hown : OwB w base v n bs)
    (g c : Nat) (y : Nat) (hx : a.eval x = .slice (some ⟨g, 0, none⟩) 1 c) (hy : One w g 5 (.int .u8 (y : Int))) (hy2 : y < 256) (hn : n ≤ 140737488353000) (hbase : base ≤ w.heap.size)
    (h : ∀ v' w', OwB w' base v' (n + 1) (bs ++ [y]) → Below base w w' → w.grownBy w' v.ownBlock → wpList Tryd.prog ops Q rest (a.put o.dst v') w') : wpList Tryd.prog ops Q (o :: rest) a w := by
  obtain ⟨i, hi, hz, hs2, hb⟩ := info_parts u8_info
  refine wpList_append_own w hgd s x 22 ho base 5 i (.int .u8 0) 1 1 Tryd.underlying22 hi hz hs2 hb rfl (by omega) v n (celB bs) hs hown.1 ⟨g, 0, none⟩ 1 c [.int .u8 (y : Int)] hx rfl ?_ ?_ ?_ ?_ hbase ?_
  · intro j u hj
    rw [ad_base]
    match j, hj with
    | 0, hj => injection hj with hj; subst hj; exact hy.c
    | j + 1, hj => simp at hj
  · intro u hu
    simp at hu
    subst hu
    rfl
  · unfold maxLen; omega
  · omega
  · intro v' w' hown' hg _
    refine h v' w' ⟨?_, fun z hz => ?_⟩ (OwB.below hown hg hbase) hg
    · rw [celB_append]
      exact hown'
    · rcases List.mem_append.1 hz with hz | hz
      · exact hown.2 z hz
      · rw [List.mem_singleton.1 hz]; exact hy2
set_option maxHeartbeats 4000000 in
theorem appendWord_any2 (base : Nat) (v : Value) (n : Nat) (bs : List Nat) (x : Nat) (w : World) (hx : x < 18446744073709551616) (ho : OwB w base v n bs) (hb : base ≤ w.heap.size) (hn : n ≤ 140737488350000) :
    Calls Tryd.prog 47 #[v, .int .u64 (x : Int)] w fun e w' => ∃ v', e = .returned v' ∧ OwB w' base v' (n + 8) (bs ++ leN x) ∧ Below base w w' ∧ KeepE w w' := by
  obtain ⟨A, c, rfl, _⟩ := ho.sl
  have HO := Lib.hid ho
  clear ho
  go_enter Tryd.func47, Tryd.ntmps47
  go_wp2_with fail
  go_loopw [0, 6] (fun u s wr => ∃ k : Nat, k ≤ 8 ∧ s = .int .i64 k ∧ OwB wr base u (n + k) (bs ++ leK x k) ∧ Below base w wr ∧ KeepE w wr) (fun _ s _ => 8 - (intOf s).toNat)
  case atStart => exact ⟨0, by omega, rfl, by simpa [leK] using HO.out, Below.refl _ _, fun _ _ h => h⟩
  case round =>
    clear HO
    obtain ⟨k, hk, rfl, ho, hbw, hke⟩ := hrel
    have HE := Lib.hid hke
    clear hke
    have HO := Lib.hid ho
    have HB := Lib.hid hbw
    have hz : base ≤ wr.heap.size := Nat.le_trans hb hbw.size
    obtain ⟨C, f, rfl, _⟩ := ho.sl
    clear ho hbw
    by_cases hlt : k < 8
    · have hk1 : (k : Int) < 8 := by omega
      have hk0 : (0 : Int) ≤ (k : Int) := by omega
      have e2 : ((8 : Int) * (k : Int)).toNat = 8 * k := by omega
      have e3 : min (8 * k) 64 = 8 * k := by omega
      have e4 := byte_cast x (8 * k)
      have hyl : x / 2 ^ (8 * k) % 256 < 256 := Nat.mod_lt _ (by decide)
      have HK := Lib.hid (leK_succ x k)
      generalize x / 2 ^ (8 * k) % 256 = y at *
      go_upto_region 5 with (at_builtin; refine wpList_appendB2 rfl (.tmp 9) (.tmp 15) rfl base _ (n + k) _ rfl (HO.out.keep ((Below.refl _ _).alloc (Nat.le_refl _) _)) wr.heap.size 1 y rfl (One.new wr _ _) hyl (by omega) (by simp; omega) ?_; intro v1 w2 ho1 hb1 hg1; have HO1 := Lib.hid ho1; have HE2 := Lib.hid ((HE.out.alloc _).app (HO.out.keep ((Below.refl _ _).alloc (Nat.le_refl _) _)) hg1); have HB2 := Lib.hid (((Below.refl base wr).alloc hz (.cells #[.int .u8 (y : Int)] 5)).trans hb1); obtain ⟨C1, f1, rfl, _⟩ := ho1.sl; clear ho1 hb1 hg1)
      go_wp2_with fail
      go_roundw
      case rel => exact ⟨k + 1, by omega, by go_num, by rw [HK.out, ← List.append_assoc]; exact HO1.out, HB.out.trans HB2.out, HE2.out⟩
      case measure => simp [intOf]; omega
    · obtain rfl : k = 8 := by omega
      go_wp2_with fail
      go_ret
      exact ⟨_, rfl, HO.out, HB.out, HE.out⟩
/-- a slice value that reads as the pairs of numbers xs -/
structure XbT (w : World) (A : Option Addr) (n c : Nat) (xs : List (Nat × Nat)) : Prop where
  len : n = xs.length
  cap : n ≤ c
  top : c ≤ 9223372036854775807
  nil : A = none → c = 0
  lt : ∀ x ∈ xs, x.1 < 18446744073709551616 ∧ x.2 < 18446744073709551616
  cells : ∀ i x, xs[i]? = some x → ∃ ad, A = some ad ∧ w.cell? (ad.add (i * 2)) = some (.int .u64 (x.1 : Int)) ∧ w.cell? ⟨(ad.add (i * 2)).block, (ad.add (i * 2)).off + 1, none⟩ = some (.int .u64 (x.2 : Int))
theorem XbT.keep {w w' : World} {A : Option Addr} {n c : Nat} {xs : List (Nat × Nat)} (h : XbT w A n c xs) (hb : Below w.heap.size w w') : XbT w' A n c xs :=
  ⟨h.len, h.cap, h.top, h.nil, h.lt, fun i x hx => by obtain ⟨ad, e, h1, h2⟩ := h.cells i x hx; exact ⟨ad, e, cell_keep h1 hb, cell_keep h2 hb⟩⟩
section
variable {ev : Operand → Value} {o : Oper}
theorem exec_fX0 {x : Operand} (g : Nat) (ho : o.op = .fieldAddr 36 x 0) (hx : ev x = .pointer (some ⟨g, 0, none⟩)) (w : World) : (execOp ev o).run Tryd.prog w = .ok (.value (.pointer (some ⟨g, 0, none⟩))) w := by
  unfold execOp
  simp only [ho, hx]
  go_simp
theorem exec_fX1 {x : Operand} (g : Nat) (ho : o.op = .fieldAddr 36 x 1) (hx : ev x = .pointer (some ⟨g, 0, none⟩)) (w : World) : (execOp ev o).run Tryd.prog w = .ok (.value (.pointer (some ⟨g, 1, none⟩))) w := by
  unfold execOp
  simp only [ho, hx]
  go_simp
end
set_option maxHeartbeats 4000000 in
theorem bytes_any (A : Option Addr) (n c : Nat) (xs : List (Nat × Nat)) (w : World) (h : XbT w A n c xs) (hn : n ≤ 1000000) :
    Calls Tryd.prog 24 #[.slice A n c] w fun e w' => ∃ v, e = .returned v ∧ OwB w' w.heap.size v (16 * n) (extsN xs) ∧ Below w.heap.size w w' := by
  have hcap := h.cap
  have htop := h.top
  have HX := Lib.hid h
  clear h
  have hmk : ∀ w : World, (Instr.makeSlice 22 (.int .i64 0) (.int .i64 (16 * (n : Int)))).run Tryd.prog w = .ok (.slice (some ⟨w.heap.size, 0, none⟩) 0 (16 * n)) (w.alloc (.cells (celB (List.replicate (16 * n) 0)).toArray 5)) := fun w => by
    rw [show (16 : Int) * (n : Int) = ((16 * n : Nat) : Int) by omega]
    exact run_makeB 0 (16 * n) (by omega) (by omega) w
  have HO := Lib.hid (OwB.fresh w (16 * n) (by omega))
  obtain ⟨zs, hzs⟩ : ∃ zs : List Value, zs = celB (List.replicate (16 * n) 0) := ⟨_, rfl⟩
  rw [← hzs] at hmk HO
  clear hzs
  go_enter Tryd.func24, Tryd.ntmps24
  go_upto_region 2 with fail
  clear hmk
  have HB := Lib.hid ((Below.refl w.heap.size w).alloc (Nat.le_refl _) (.cells zs.toArray 5))
  generalize w.alloc (.cells zs.toArray 5) = w1 at *
  go_wp2_with fail
  go_loopw [3, 12] (fun v s wr => ∃ k : Nat, k ≤ n ∧ s = .int .i64 k ∧ OwB wr w.heap.size v (16 * k) (extsN (xs.take k)) ∧ Below w.heap.size w wr) (fun _ s _ => n - (intOf s).toNat)
  case atStart => exact ⟨0, Nat.zero_le _, rfl, HO.out, HB.out⟩
  case round =>
    clear HO HB
    obtain ⟨k, hk, rfl, ho, hb⟩ := hrel
    obtain ⟨C, f, rfl, _⟩ := ho.sl
    have HO := Lib.hid ho
    have HB := Lib.hid hb
    have hz := hb.size
    by_cases hlt : k < n
    · have hk1 : (k : Int) < (n : Int) := by omega
      have hk0 : (0 : Int) ≤ (k : Int) := by omega
      obtain ⟨x, hx⟩ : ∃ x, xs[k]? = some x := ⟨xs[k]'(by have := HX.out.len; omega), List.getElem?_eq_getElem _⟩
      obtain ⟨ad, rfl, c0, c1⟩ := (HX.out.keep hb).cells k x hx
      have HXK := Lib.hid hx
      have hx1 := HX.out.lt x (List.mem_of_getElem? hx)
      obtain ⟨p, q⟩ := x
      clear ho hb hx
      go_upto_region 5 with fail
      have hbA : Below wr.heap.size wr (wr.alloc (.cells #[.int .u64 (p : Int), .int .u64 (q : Int)] 36)) := (Below.refl _ _).alloc (Nat.le_refl _) _
      have HO1 := Lib.hid (HO.out.keep hbA.drew)
      have HB1 := Lib.hid (bel_step HB.out hbA.drew)
      have hS : (wr.alloc (.cells #[.int .u64 (p : Int), .int .u64 (q : Int)] 36)).drew.heap[wr.heap.size]? = some (Obj.cells #[.int .u64 (p : Int), .int .u64 (q : Int)] 36 (0, 0)) := heap_new wr _
      clear hbA c0 c1
      generalize wr.alloc (.cells #[.int .u64 (p : Int), .int .u64 (q : Int)] 36) = V1 at *
      generalize wr.heap.size = g5 at *
      refine wp_ordA (fun W => W.heap[g5]? = some (Obj.cells #[.int .u64 (p : Int), .int .u64 (q : Int)] 36 (0, 0))) [(0, true), (1, true), (2, true), (4, true), (5, true), (3, false), (6, false), (7, true)] (by kernel_rfl) (by kernel_rfl) (fun _ _ dt _ _ h => by cases dt <;> exact h) rfl (by kernel_rfl) hS ?_
      refine wpO_val (.slice C (16 * k) f) rfl rfl (fun W hW => rfl) ?_
      simp only [Act.put, List.setIfInBounds_toArray, List.set_cons_zero, List.set_cons_succ]
      refine wpO_val (.pointer (some ⟨g5, 0, none⟩)) rfl rfl (fun W hW => exec_fX0 g5 rfl rfl W) ?_
      simp only [Act.put, List.setIfInBounds_toArray, List.set_cons_zero, List.set_cons_succ]
      refine wpO_val (.int .u64 (p : Int)) rfl rfl (fun W hW => exec_loadU ⟨g5, 0, none⟩ (p : Int) (cells_at hW 0 rfl) rfl rfl) ?_
      simp only [Act.put, List.setIfInBounds_toArray, List.set_cons_zero, List.set_cons_succ]
      refine wpO_val (.pointer (some ⟨g5, 1, none⟩)) rfl rfl (fun W hW => exec_fX1 g5 rfl rfl W) ?_
      simp only [Act.put, List.setIfInBounds_toArray, List.set_cons_zero, List.set_cons_succ]
      refine wpO_val (.int .u64 (q : Int)) rfl rfl (fun W hW => exec_loadU ⟨g5, 1, none⟩ (q : Int) (cells_at hW 1 rfl) rfl rfl) ?_
      simp only [Act.put, List.setIfInBounds_toArray, List.set_cons_zero, List.set_cons_succ]
      refine wpO_op rfl (by kernel_rfl) ?_
      refine hOp_call 47 Tryd.func47 (by kernel_rfl) (by kernel_rfl) _ _ #[.slice C (16 * k) f, .int .u64 (p : Int)] rfl (by kernel_rfl) ?_
      refine (appendWord_any2 w.heap.size _ (16 * k) _ p _ hx1.1 HO1.out HB1.out.size (by omega)).mono ?_
      rintro e W1 ⟨v1, rfl, ho1, hb1, he1⟩
      have HO2 := Lib.hid ho1
      have HB2 := Lib.hid (HB1.out.trans hb1)
      have HS2 := Lib.hid (he1 _ _ hS)
      clear ho1 hb1 he1
      refine ⟨_, rfl, HS2.out, ?_⟩
      simp only [Act.put, List.setIfInBounds_toArray, List.set_cons_zero, List.set_cons_succ]
      refine wpO_op rfl (by kernel_rfl) ?_
      refine hOp_call 47 Tryd.func47 (by kernel_rfl) (by kernel_rfl) _ _ #[v1, .int .u64 (q : Int)] rfl (by kernel_rfl) ?_
      refine (appendWord_any2 w.heap.size _ (16 * k + 8) _ q _ hx1.2 HO2.out HB2.out.size (by omega)).mono ?_
      rintro e W2 ⟨v2, rfl, ho2, hb2, he2⟩
      have HO3 := Lib.hid ho2
      have HB3 := Lib.hid (HB2.out.trans hb2)
      have HS3 := Lib.hid (he2 _ _ HS2.out)
      clear ho2 hb2 he2
      refine ⟨_, rfl, HS3.out, ?_⟩
      simp only [Act.put, List.setIfInBounds_toArray, List.set_cons_zero, List.set_cons_succ]
      refine wpO_val v2 rfl rfl (fun W hW => rfl) ?_
      simp only [Act.put, List.setIfInBounds_toArray, List.set_cons_zero, List.set_cons_succ]
      refine wpO_nil ?_
      go_wp2_with fail
      go_roundw
      case rel =>
        refine ⟨k + 1, by omega, by go_num, ?_, HB3.out⟩
        have h1 := HO3.out
        rw [List.append_assoc, ← extsN_take HXK.out, show 16 * k + 8 + 8 = 16 * (k + 1) by omega] at h1
        exact h1
      case measure => simp [intOf]; omega
    · obtain rfl : k = n := by omega
      go_wp2_with fail
      go_ret
      refine ⟨_, rfl, ?_, HB.out⟩
      have h1 := HO.out
      rw [List.take_of_length_le (by have := HX.out.len; omega)] at h1
      exact h1
end Go.Proofs.YtcaoajeplinopaaDoor

namespace Go.Proofs.YtcaoajeplinopaaDoor
set_option linter.unusedVariables false
set_option linter.unusedSimpArgs false
set_option maxRecDepth 8000
open Go.RowKit
open Go.Shelf
attribute [local simp] z32_ne z32_run
attribute [-simp] Tryd.zeroValue30 Tryd.isAgg30 Tryd.sizeOf30
attribute [-simp] Tryd.zeroValue32 Tryd.isAgg32 Tryd.sizeOf32
attribute [local simp] z33_ne z33_run
attribute [local irreducible] wpList
theorem OwB.monoB {w : World} {b b' n : Nat} {v : Value} {bs : List Nat} (h : OwB w b v n bs) (hb : b' ≤ b) : OwB w b' v n bs := ⟨⟨h.1.1, h.1.2.elim .inl fun ⟨g, cap, cur, h1, h2, h3⟩ => .inr ⟨g, cap, cur, h1, Nat.le_trans hb h2, h3⟩⟩, h.2⟩
theorem OwB.farRow {w : World} {b n g : Nat} {v : Value} {bs : List Nat} (h : OwB w b v n bs) (hg : g < b) (cs : Array Value) : OwB (w.setRow g cs) b v n bs := h.same fun k o hk h0 => heap_farRow h0 (by omega) _
set_option maxHeartbeats 4000000 in
theorem absorbExt_any (s : List Nat) (c : Nat) (lb : ByteArray) (A : Option Addr) (n cp : Nat) (xs : List (Nat × Nat)) (w : World) (hl : s.length = 32) (hsb : ∀ x ∈ s, x < 256) (hlb : lb.size ≤ 200) (h : XbT w A n cp xs) (hn : n ≤ 1000000) (hG : Gl w) (D : List Nat) (hD : shaN (s ++ ([1, lb.size] ++ (bytS lb ++ (leN (16 * n) ++ extsN xs)))) = D) :
    Calls Tryd.prog 19 #[.agg (trC s c), .string lb, .slice A n cp] w fun e w' => e = .returned (.agg (trC D 0)) ∧ Below w.heap.size w w' := by
  have hDl : D.length = 32 := by rw [← hD]; exact shaN_length _
  have HD := Lib.hid hD
  have HSB := Lib.hid hsb
  have HX := Lib.hid h
  have HG := Lib.hid hG
  clear hD hsb h hG
  go_enter Tryd.func19, Tryd.ntmps19
  go_upto_region 1 with fail
  refine wp_named2 (fun V1 hb g0 g1 hlt => ?_)
  have B1 := Lib.hid hb
  have F3 : Hid (RowT V1 w.heap.size s c) := Lib.hid g0
  have F6 : Hid (RowT V1 (w.heap.size + 1) (List.replicate 32 0) 0) := Lib.hid g1
  clear hb g0 g1
  refine wp_free (fun W => RowT W w.heap.size s c ∧ (∃ s0 c0, s0.length = 32 ∧ RowT W (w.heap.size + 1) s0 c0) ∧ Below w.heap.size w W ∧ V1.heap.size ≤ W.heap.size)
    (fun i v W => match i with
      | 0 => v = .agg (trC s c)
      | 1 => v = .string lb
      | 2 => v = .slice A n cp
      | 3 => OwB W V1.heap.size v (16 * n) (extsN xs)
      | 4 => v = .agg (trC D 0)
      | _ => RowT W (w.heap.size + 1) D 0) (by kernel_rfl) (lexOK_of (by kernel_rfl) (by kernel_rfl)) (by kernel_rfl) (by kernel_rfl) (by kernel_rfl)
    ⟨F3.out, ⟨_, _, List.length_replicate, F6.out⟩, B1.out.drew, Nat.le_refl _⟩ ?obl ?fin
  case obl =>
    refine ⟨fun vs W hI hF => ?_, fun vs W hI hF => ?_, fun vs W hI hF => ?_, fun vs W hI hF => ?_, fun vs W hI hF => ?_, fun vs W hI hF => ?_, trivial⟩
    · (try simp only [Nat.zero_add, Nat.reduceAdd, Act.put, List.setIfInBounds_toArray, List.set_cons_zero, List.set_cons_succ])
      unfold hOp
      rw [exec_loadT w.heap.size s c hl hI.1 rfl rfl]
      exact ⟨hI, rfl, fun j u _ h => h⟩
    · simp only [Nat.zero_add, Nat.reduceAdd, Act.put, List.setIfInBounds_toArray, List.set_cons_zero, List.set_cons_succ]
      unfold hOp
      exact ⟨hI, rfl, fun j u _ h => h⟩
    · simp only [Nat.zero_add, Nat.reduceAdd, Act.put, List.setIfInBounds_toArray, List.set_cons_zero, List.set_cons_succ]
      unfold hOp
      exact ⟨hI, rfl, fun j u _ h => h⟩
    · simp only [Nat.zero_add, Nat.reduceAdd, Act.put, List.setIfInBounds_toArray, List.set_cons_zero, List.set_cons_succ]
      have h2 : vs 2 = .slice A n cp := hF 2 (by kernel_rfl)
      refine hOp_call 24 Tryd.func24 (by kernel_rfl) (by kernel_rfl) _ _ #[.slice A n cp] rfl (by simp [Act.eval, h2]) ?_
      obtain ⟨i1, ⟨s0, c0, hs0, i2⟩, i3, i4⟩ := hI
      refine (bytes_any A n cp xs W (HX.out.keep i3) hn).mono ?_
      rintro e W' ⟨v, rfl, ho, hb⟩
      refine ⟨v, rfl, ⟨i1.keep hb, ⟨s0, c0, hs0, i2.keep hb⟩, bel_step i3 hb, Nat.le_trans i4 hb.size⟩, ho.monoB i4, fun j u hj h => ?_⟩
      match j, hj, h with
      | 0, _, h => exact h
      | 1, _, h => exact h
      | 2, _, h => exact h
      | 4, _, h => exact h
      | j + 5, _, h => exact RowT.keep h hb
    · simp only [Nat.zero_add, Nat.reduceAdd, Act.put, List.setIfInBounds_toArray, List.set_cons_zero, List.set_cons_succ]
      have h0 : vs 0 = .agg (trC s c) := hF 0 (by kernel_rfl)
      have h1 : vs 1 = .string lb := hF 1 (by kernel_rfl)
      have h3 : OwB W V1.heap.size (vs 3) (16 * n) (extsN xs) := hF 3 (by kernel_rfl)
      obtain ⟨A', c', e3, hs3⟩ := h3.sl
      refine hOp_call 17 Tryd.func17 (by kernel_rfl) (by kernel_rfl) _ _ #[.agg (trC s c), .string lb, .slice A' (16 * n) c'] rfl (by simp [Act.eval, h0, h1, e3]) ?_
      obtain ⟨i1, ⟨s0, c0, hs0, i2⟩, i3, i4⟩ := hI
      refine (absorb_any s c lb A' (16 * n) c' (extsN xs) W hl HSB.out hlb hs3 (by omega) (HG.out.keep i3) D HD.out).mono ?_
      rintro e W' ⟨rfl, hb⟩
      refine ⟨_, rfl, ⟨i1.keep hb, ⟨s0, c0, hs0, i2.keep hb⟩, bel_step i3 hb, Nat.le_trans i4 hb.size⟩, rfl, fun j u hj h => ?_⟩
      match j, hj, h with
      | 0, _, h => exact h
      | 1, _, h => exact h
      | 2, _, h => exact h
      | 3, _, h => exact OwB.keep h hb
      | j + 5, _, h => exact RowT.keep h hb
    · simp only [Nat.zero_add, Nat.reduceAdd, Act.put, List.setIfInBounds_toArray, List.set_cons_zero, List.set_cons_succ]
      have h4 : vs 4 = .agg (trC D 0) := hF 4 (by kernel_rfl)
      obtain ⟨i1, ⟨s0, c0, hs0, i2⟩, i3, i4⟩ := hI
      unfold hOp
      rw [exec_storeT (x := .tmp 6) (y := .tmp 11) (w.heap.size + 1) s0 c0 D 0 hs0 hDl i2 rfl rfl (by rw [h4]; rfl)]
      refine ⟨⟨heap_farRow i1 (by omega) _, ⟨_, _, hDl, i2.row D 0⟩, bel_setRow i3 (by omega) _, by simpa [World.setRow] using i4⟩, i2.row D 0, fun j u hj h => ?_⟩
      match j, hj, h with
      | 0, _, h => exact h
      | 1, _, h => exact h
      | 2, _, h => exact h
      | 3, _, h => exact OwB.farRow h (by omega) _
      | 4, _, h => exact h
      | j + 6, _, h => exact i2.row D 0
  case fin =>
    intro vs W hI hF
    have h5 := hF 5 (by decide)
    obtain ⟨_, _, i3, _⟩ := hI
    clear hF
    simp only [putsT, Nat.zero_add, Nat.reduceAdd, Act.put, List.setIfInBounds_toArray, List.set_cons_zero, List.set_cons_succ]
    generalize vs 0 = v0, vs 1 = v1, vs 2 = v2, vs 3 = v3, vs 4 = v4, vs 5 = v5 at *
    go_wp2_with fail
    refine bodyPost_ret (v := .agg (trC D 0)) ?_ rfl ⟨rfl, i3⟩
    exact results_cell_row rfl _ _ (w.heap.size + 1) 32 _ (0, 0) _ rfl h5 Tryd.underlying32 rfl (trC_info hDl 0)
end Go.Proofs.YtcaoajeplinopaaDoor

namespace Go.Proofs.YtcaoajeplinopaaDoor
set_option linter.unusedVariables false
set_option linter.unusedSimpArgs false
set_option maxRecDepth 8000
open Go.RowKit
open Go.Shelf
attribute [local simp] z32_ne z32_run
attribute [-simp] Tryd.zeroValue30 Tryd.isAgg30 Tryd.sizeOf30
attribute [-simp] Tryd.zeroValue32 Tryd.isAgg32 Tryd.sizeOf32
attribute [local simp] z33_ne z33_run
attribute [local irreducible] wpList
def u64N (z : Int) : Nat := (z % 18446744073709551616).toNat
theorem u64N_lt (z : Int) : u64N z < 18446744073709551616 := by unfold u64N; omega
theorem exec_cvtU {ev : Operand → Value} {o : Oper} {x : Operand} (z : Int) (w : World) (ho : o.op = .convert 2 25 x) (hx : ev x = .int .i64 z) : (execOp ev o).run Tryd.prog w = .ok (.value (.int .u64 ((u64N z : Nat) : Int))) w := by
  have h : IntKind.u64.wrap z = ((u64N z : Nat) : Int) := by rw [IntKind.wrap_u64]; unfold u64N; omega
  unfold execOp
  simp only [ho, hx]
  go_simp
set_option maxHeartbeats 4000000 in
theorem absorbInts_any (s : List Nat) (c : Nat) (lb : ByteArray) (A : Option Addr) (n cp : Nat) (is : List Int) (w : World) (hl : s.length = 32) (hsb : ∀ x ∈ s, x < 256) (hlb : lb.size ≤ 200) (h : Ib w A n cp is) (hn : n ≤ 1000000) (hG : Gl w) (D : List Nat) (hD : shaN (s ++ ([1, lb.size] ++ (bytS lb ++ (leN (8 * n) ++ intsB (is.map u64N))))) = D) :
    Calls Tryd.prog 21 #[.agg (trC s c), .string lb, .slice A n cp] w fun e w' => e = .returned (.agg (trC D 0)) ∧ Below w.heap.size w w' := by
  have hDl : D.length = 32 := by rw [← hD]; exact shaN_length _
  have hcap := h.cap
  have htop := h.top
  have HD := Lib.hid hD
  have HSB := Lib.hid hsb
  have HX := Lib.hid h
  have HG := Lib.hid hG
  clear hD hsb h hG
  have hmk : ∀ w : World, (Instr.makeSlice 22 (.int .i64 0) (.int .i64 (8 * (n : Int)))).run Tryd.prog w = .ok (.slice (some ⟨w.heap.size, 0, none⟩) 0 (8 * n)) (w.alloc (.cells (celB (List.replicate (8 * n) 0)).toArray 5)) := fun w => by
    rw [show (8 : Int) * (n : Int) = ((8 * n : Nat) : Int) by omega]
    exact run_makeB 0 (8 * n) (by omega) (by omega) w
  have hfr := fun w : World => OwB.fresh w (8 * n) (by omega)
  obtain ⟨zs, hzs⟩ : ∃ zs : List Value, zs = celB (List.replicate (8 * n) 0) := ⟨_, rfl⟩
  rw [← hzs] at hmk hfr
  clear hzs
  go_enter Tryd.func21, Tryd.ntmps21
  go_upto_region 1 with fail
  refine wp_named2 (fun V1 hb g0 g1 hlt => ?_)
  have B1 := Lib.hid hb
  have F3 : Hid (RowT V1 w.heap.size s c) := Lib.hid g0
  have F6 : Hid (RowT V1 (w.heap.size + 1) (List.replicate 32 0) 0) := Lib.hid g1
  clear hb g0 g1
  go_upto_region 2 with fail
  have HO := Lib.hid (hfr V1)
  clear hmk hfr
  have HB := Lib.hid ((Below.refl V1.heap.size V1).alloc (Nat.le_refl _) (.cells zs.toArray 5))
  generalize V1.alloc (.cells zs.toArray 5) = w1 at *
  go_wp2_with fail
  go_loopw [7, 16] (fun v s wr => ∃ k : Nat, k ≤ n ∧ s = .int .i64 k ∧ OwB wr V1.heap.size v (8 * k) (intsB ((is.map u64N).take k)) ∧ Below V1.heap.size V1 wr) (fun _ s _ => n - (intOf s).toNat)
  case atStart => exact ⟨0, Nat.zero_le _, rfl, HO.out, HB.out⟩
  case round =>
    clear HO HB
    obtain ⟨k, hk, rfl, ho, hb⟩ := hrel
    obtain ⟨C, f, rfl, _⟩ := ho.sl
    have HO := Lib.hid ho
    have HB := Lib.hid hb
    have hz := hb.size
    have hbw := bel_step B1.out hb
    by_cases hlt2 : k < n
    · have hk1 : (k : Int) < (n : Int) := by omega
      have hk0 : (0 : Int) ≤ (k : Int) := by omega
      obtain ⟨z, hx⟩ : ∃ z, is[k]? = some z := ⟨is[k]'(by have := HX.out.len; omega), List.getElem?_eq_getElem _⟩
      obtain ⟨ad, rfl, c0⟩ := (HX.out.keep hbw).cells k z hx
      have HXK := Lib.hid (show (is.map u64N)[k]? = some (u64N z) by rw [List.getElem?_map, hx]; rfl)
      have hx1 := u64N_lt z
      clear ho hb hx hbw
      go_upto_region 5 with fail
      clear c0
      refine wp_region_lit ?_
      refine wpList_run (by kernel_rfl) (.slice C (8 * k) f) wr rfl ?_
      simp only [Act.put, List.setIfInBounds_toArray, List.set_cons_zero, List.set_cons_succ]
      refine wpList_run (by kernel_rfl) (.int .i64 z) wr rfl ?_
      simp only [Act.put, List.setIfInBounds_toArray, List.set_cons_zero, List.set_cons_succ]
      refine wpList_run (by kernel_rfl) (.int .u64 ((u64N z : Nat) : Int)) wr (exec_cvtU z wr rfl rfl) ?_
      simp only [Act.put, List.setIfInBounds_toArray, List.set_cons_zero, List.set_cons_succ]
      generalize u64N z = y at *
      refine wpList_call (by kernel_rfl) 47 Tryd.func47 (by kernel_rfl) (by kernel_rfl) _ _ #[.slice C (8 * k) f, .int .u64 (y : Int)] rfl (by kernel_rfl) ?_
      refine (appendWord_any V1.heap.size _ (8 * k) _ y wr hx1 HO.out hz (by omega)).mono ?_
      rintro e W1 ⟨v1, rfl, ho1, hb1⟩
      have HO2 := Lib.hid ho1
      have HB2 := Lib.hid (HB.out.trans hb1)
      clear ho1 hb1
      refine ⟨_, rfl, ?_⟩
      simp only [Act.put, List.setIfInBounds_toArray, List.set_cons_zero, List.set_cons_succ]
      refine wpList_run (by kernel_rfl) v1 W1 rfl ?_
      simp only [Act.put, List.setIfInBounds_toArray, List.set_cons_zero, List.set_cons_succ]
      refine wpList_nil ?_
      go_wp2_with fail
      go_roundw
      case rel =>
        refine ⟨k + 1, by omega, by go_num, ?_, HB2.out⟩
        have h1 := HO2.out
        rw [← intsB_take HXK.out, show 8 * k + 8 = 8 * (k + 1) by omega] at h1
        exact h1
      case measure => simp [intOf]; omega
    · obtain rfl : k = n := by omega
      have hs2 : Sb wr C (8 * k) f (intsB (is.map u64N)) := by
        have h1 := ho.sl'
        rwa [List.take_of_length_le (by rw [List.length_map]; have := HX.out.len; omega)] at h1
      have HS := Lib.hid hs2
      have HBW := Lib.hid hbw
      have G3 := Lib.hid (F3.out.keep hb)
      have G6 := Lib.hid (F6.out.keep hb)
      clear ho hb hs2 hbw
      go_upto_region 7 with fail
      refine wp_region_lit ?_
      refine wpList_run (by kernel_rfl) (.agg (trC s c)) wr (exec_loadT w.heap.size s c hl G3.out rfl rfl) ?_
      simp only [Act.put, List.setIfInBounds_toArray, List.set_cons_zero, List.set_cons_succ]
      refine wpList_run (by kernel_rfl) (.string lb) wr rfl ?_
      simp only [Act.put, List.setIfInBounds_toArray, List.set_cons_zero, List.set_cons_succ]
      refine wpList_run (by kernel_rfl) (.slice C (8 * k) f) wr rfl ?_
      simp only [Act.put, List.setIfInBounds_toArray, List.set_cons_zero, List.set_cons_succ]
      refine wpList_call (by kernel_rfl) 17 Tryd.func17 (by kernel_rfl) (by kernel_rfl) _ _ #[.agg (trC s c), .string lb, .slice C (8 * k) f] rfl (by kernel_rfl) ?_
      refine (absorb_any s c lb C (8 * k) f _ wr hl HSB.out hlb HS.out (by omega) (HG.out.keep HBW.out) D HD.out).mono ?_
      rintro e W2 ⟨rfl, hb2⟩
      have G62 := Lib.hid (G6.out.keep hb2)
      have HB2 := Lib.hid (bel_step HBW.out hb2)
      clear hb2
      refine ⟨_, rfl, ?_⟩
      simp only [Act.put, List.setIfInBounds_toArray, List.set_cons_zero, List.set_cons_succ]
      refine wpList_run0 (by kernel_rfl) _ (exec_storeT (w.heap.size + 1) (List.replicate 32 0) 0 D 0 List.length_replicate hDl G62.out rfl rfl rfl) ?_
      simp only [Act.put, List.setIfInBounds_toArray, List.set_cons_zero, List.set_cons_succ]
      refine wpList_nil ?_
      go_wp2_with fail
      refine bodyPost_ret (v := .agg (trC D 0)) ?_ rfl ⟨rfl, bel_setRow HB2.out (by omega) _⟩
      exact results_cell_row rfl _ _ (w.heap.size + 1) 32 _ (0, 0) _ rfl (G62.out.row D 0) Tryd.underlying32 rfl (trC_info hDl 0)
end Go.Proofs.YtcaoajeplinopaaDoor

namespace Go.Proofs.YtcaoajeplinopaaDoor
set_option linter.unusedVariables false
set_option linter.unusedSimpArgs false
set_option maxRecDepth 8000
open Go.RowKit
set_option maxHeartbeats 2000000 in
theorem rsameInts_yes (A : Option Addr) (n c : Nat) (B : Option Addr) (m d : Nat) (is : List Int) (w : World) (ha : Ib w A n c is) (hb : Ib w B m d is) :
    Calls Tryd.prog 28 #[.slice A n c, .slice B m d] w fun e w' => e = .returned (.bool true) ∧ Below w.heap.size w w' := by
  obtain rfl : n = m := by rw [ha.len, hb.len]
  have hcap := ha.cap
  have htop := ha.top
  have HA := Lib.hid ha
  have HC := Lib.hid hb
  clear ha hb
  go_enter Tryd.func28, Tryd.ntmps28
  go_wp2_with fail
  go_loopw [5] (fun s wr => ∃ k : Nat, k ≤ n ∧ s = .int .i64 k ∧ Below w.heap.size w wr) (fun s _ => n - (intOf s).toNat)
  case atStart => exact ⟨0, Nat.zero_le _, rfl, Below.refl _ _⟩
  case round =>
    obtain ⟨k, hk, rfl, hbw⟩ := hrel
    by_cases hlt : k < n
    · have hk1 : (k : Int) < (n : Int) := by omega
      have hk0 : (0 : Int) ≤ (k : Int) := by omega
      obtain ⟨ad, rfl⟩ := HA.out.some_ (by omega)
      obtain ⟨ad2, rfl⟩ := HC.out.some_ (by omega)
      have c0 := Later.cell ((HA.out.keep hbw).at_ hlt)
      have c1 := Later.cell ((HC.out.keep hbw).at_ hlt)
      generalize is.getD k 0 = x at *
      go_wp2_with fail
      refine wp_later_lex (by kernel_rfl) (lexOK_of (by kernel_rfl) (by kernel_rfl)) ?_
      repeat (go_big_quiet_step (fail))
      refine wpQuiet_nil ?_
      intro X
      have hb2 := bel_step hbw X.below
      go_wp2_with fail
      go_roundw
      case rel => exact ⟨k + 1, hlt, by go_num, hb2⟩
      case measure => simp [intOf]; omega
    · obtain rfl : k = n := by omega
      go_wp2_with fail
      go_ret
      exact ⟨rfl, hbw⟩
set_option maxHeartbeats 2000000 in
theorem rlabel_any (s : ByteArray) (w : World) :
    Calls Tryd.prog 38 #[.string s] w fun e w' => (∃ lb : ByteArray, lb.size ≤ 32 ∧ e = .returned (.string lb)) ∧ w' = w := by
  go_enter Tryd.func38, Tryd.ntmps38
  by_cases h : s.size ≤ 32
  · go_wp2_with fail
    go_ret
    exact ⟨⟨s, h, rfl⟩, rfl⟩
  · go_wp2_with fail
    go_ret
    refine ⟨⟨_, ?_, rfl⟩, rfl⟩
    simp
    try omega
end Go.Proofs.YtcaoajeplinopaaDoor

namespace Go.Proofs.YtcaoajeplinopaaDoor
set_option linter.unusedVariables false
set_option linter.unusedSimpArgs false
set_option maxRecDepth 8000
open Go.RowKit Gold
open Go.Shelf
attribute [local irreducible] wpList
def cellsX (xs : List (Nat × Nat)) : List Value := xs.flatMap fun x => [.int .u64 (x.1 : Int), .int .u64 (x.2 : Int)]
theorem cellsX_length (xs : List (Nat × Nat)) : (cellsX xs).length = xs.length * 2 := by
  induction xs with
  | nil => rfl
  | cons x xs ih => unfold cellsX at *; rw [List.flatMap_cons, List.length_append, ih]; simp; omega
theorem cellsX_append (xs ys : List (Nat × Nat)) : cellsX (xs ++ ys) = cellsX xs ++ cellsX ys := by unfold cellsX; simp
theorem cellsX_even {xs : List (Nat × Nat)} {i : Nat} {x : Nat × Nat} (h : xs[i]? = some x) : (cellsX xs)[i * 2]? = some (.int .u64 (x.1 : Int)) := by
  induction xs generalizing i with
  | nil => simp at h
  | cons y xs ih =>
    cases i with
    | zero => simp at h; subst h; rfl
    | succ i =>
      simp at h
      have := ih h
      unfold cellsX at *
      rw [List.flatMap_cons, List.getElem?_append_right (by simp; omega)]
      simpa [show (i + 1) * 2 - 2 = i * 2 by omega] using this
theorem cellsX_odd {xs : List (Nat × Nat)} {i : Nat} {x : Nat × Nat} (h : xs[i]? = some x) : (cellsX xs)[i * 2 + 1]? = some (.int .u64 (x.2 : Int)) := by
  induction xs generalizing i with
  | nil => simp at h
  | cons y xs ih =>
    cases i with
    | zero => simp at h; subst h; rfl
    | succ i =>
      simp at h
      have := ih h
      unfold cellsX at *
      rw [List.flatMap_cons, List.getElem?_append_right (by simp; omega)]
      simpa [show (i + 1) * 2 + 1 - 2 = i * 2 + 1 by omega] using this
theorem x_info : (Tryd.prog.info? 36).map (fun i => (i.zero, i.size, i.bytes)) = some (some (.agg #[.int .u64 0, .int .u64 0]), 2, 16) := by kernel_rfl
/-- a slice of the call's own that holds the pairs xs -/
def OwX (w : World) (base : Nat) (v : Value) (n : Nat) (xs : List (Nat × Nat)) : Prop := w.ownsRow base 36 2 v n (cellsX xs)
section
variable {w w' : World} {base : Nat} {v : Value} {n : Nat} {xs : List (Nat × Nat)}
theorem OwX.keep (h : OwX w base v n xs) (hb : Below w.heap.size w w') : OwX w' base v n xs := by
  refine ⟨h.1, ?_⟩
  rcases h.2 with hn | ⟨g, cap, cur, rfl, hbs, hgg, rest⟩
  · exact .inl hn
  · exact .inr ⟨g, cap, cur, rfl, hbs, heap_keep hgg hb, rest⟩
theorem OwX.len (h : OwX w base v n xs) : n = xs.length := by
  have := h.1
  rw [cellsX_length] at this
  omega
theorem OwX.xb (h : OwX w base v n xs) (hlt : ∀ x ∈ xs, x.1 < 18446744073709551616 ∧ x.2 < 18446744073709551616) : ∃ A c, v = .slice A n c ∧ XbT w A n c xs := by
  have hn := h.len
  rcases h.2 with ⟨rfl, rfl⟩ | ⟨g, cap, cur, rfl, hb, hg, hc, hm, hs, ht⟩
  · refine ⟨none, 0, rfl, ?_⟩
    have : xs = [] := List.eq_nil_of_length_eq_zero hn.symm
    subst this
    exact ⟨rfl, Nat.le_refl _, by omega, fun _ => rfl, hlt, fun i x hx => by simp at hx⟩
  · unfold maxLen at hm
    refine ⟨_, cap, rfl, hn, hc, by omega, (fun e => by cases e), hlt, fun i x hx => ⟨_, rfl, ?_⟩⟩
    have hl := (List.getElem?_eq_some_iff.1 hx).1
    have key : ∀ k u, (cellsX xs)[k]? = some u → w.cell? ⟨g, k, none⟩ = some u := fun k u hu => by
      rw [← ht] at hu
      have hk := (List.getElem?_eq_some_iff.1 hu).1
      rw [List.getElem?_take_of_lt (by simp at hk; omega)] at hu
      simpa [World.cell?, hg] using hu
    rw [ad_base]
    exact ⟨key _ _ (cellsX_even hx), key _ _ (cellsX_odd hx)⟩
theorem OwX.made (w : World) (base : Nat) (hb : base ≤ w.heap.size) : OwX (w.alloc (.cells #[] 36)) base (.slice (some ⟨w.heap.size, 0, none⟩) 0 0) 0 [] := World.ownsRow_made w #[] 0 hb (Nat.zero_le _) rfl
theorem OwX.form (h : OwX w base v n xs) : ∃ A c, v = .slice A n c := by
  rcases h.2 with ⟨rfl, rfl⟩ | ⟨g, cap, cur, rfl, _⟩
  · exact ⟨_, _, rfl⟩
  · exact ⟨_, _, rfl⟩
end
theorem hOp_appendX {o : Oper} {a : Act} {w : World} {K : Value → World → Prop} (s x : Operand)
    (ho : o.op = .call { callee := .builtin .append, args := #[s, x], argTypes := #[23, 23] }) (base : Nat) (v : Value) (n : Nat) (xs : List (Nat × Nat)) (hs : a.eval s = v) (hown : OwX w base v n xs)
    (g c : Nat) (y : Nat × Nat) (hx : a.eval x = .slice (some ⟨g, 0, none⟩) 1 c) (hy : Two w g 36 (.int .u64 (y.1 : Int)) (.int .u64 (y.2 : Int))) (hn : n ≤ 1000000) (hbase : base ≤ w.heap.size)
    (h : ∀ v' w', OwX w' base v' (n + 1) (xs ++ [y]) → w.grownBy w' v.ownBlock → K v' w') : hOp Tryd.prog o K a w := by
  obtain ⟨i, hi, hz, hs2, hb⟩ := info_parts x_info
  obtain ⟨v', w', hrun, hown', hg, _⟩ := run_append_own (P := Tryd.prog) w base 23 o.type 36 i (.agg #[.int .u64 0, .int .u64 0]) 2 16 Tryd.underlying23 hi hz hs2 hb rfl (by omega) v n (cellsX xs) hown ⟨g, 0, none⟩ 1 c [.int .u64 (y.1 : Int), .int .u64 (y.2 : Int)] rfl
    (by
      intro j u hj
      rw [ad_base]
      match j, hj with
      | 0, hj => injection hj with hj; subst hj; exact hy.c0
      | 1, hj => injection hj with hj; subst hj; exact hy.c1
      | j + 2, hj => simp at hj)
    (by
      intro u hu
      simp at hu
      rcases hu with rfl | rfl <;> rfl)
    (by unfold maxLen; omega) (by omega) hbase
  unfold hOp execOp
  simp only [ho, resolve, invoke, builtin, Sem.run_bind, Sem.run_pure, Result.andThen_ok, List.map_toArray, List.map_cons, List.map_nil, hs, hx, hrun]
  refine h v' w' ?_ hg
  unfold OwX
  rw [cellsX_append]
  exact hown'
section
variable {ev : Operand → Value} {o : Oper}
theorem run_buildX {x : Operand} (p q : Nat) {w : World} (ho : o.op = .buildSlice 23 1 #[(0, x)]) (hx : ev x = .agg #[.int .u64 (p : Int), .int .u64 (q : Int)]) :
    (execOp ev o).run Tryd.prog w = .ok (.value (.slice (some ⟨w.heap.size, 0, none⟩) 1 1)) (w.alloc (.cells #[.int .u64 (p : Int), .int .u64 (q : Int)] 36)) := by
  unfold execOp
  rw [ho]
  simp only [List.map_toArray, List.map_cons, List.map_nil, hx]
  go_simp
theorem exec_idxT10 {x y : Operand} (ad : Addr) (n c k : Nat) (hk : k < n) (ho : o.op = .indexAddr 23 x y) (hx : ev x = .slice (some ad) n c) (hy : ev y = .int .i64 (k : Int)) (w : World) : (execOp ev o).run Tryd.prog w = .ok (.value (.pointer (some (ad.add (k * 2))))) w := by
  have h1 : (k : Int) < (n : Int) := by omega
  have h0 : (0 : Int) ≤ (k : Int) := by omega
  unfold execOp
  simp only [ho, hx, hy]
  go_simp
theorem exec_fA0 {x : Operand} (a : Addr) (ho : o.op = .fieldAddr 36 x 0) (hx : ev x = .pointer (some a)) (w : World) : (execOp ev o).run Tryd.prog w = .ok (.value (.pointer (some a))) w := by
  unfold execOp
  simp only [ho, hx]
  go_simp
theorem exec_fA1 {x : Operand} (a : Addr) (ho : o.op = .fieldAddr 36 x 1) (hx : ev x = .pointer (some a)) (w : World) : (execOp ev o).run Tryd.prog w = .ok (.value (.pointer (some ⟨a.block, a.off + 1, none⟩))) w := by
  unfold execOp
  simp only [ho, hx]
  go_simp
end
def redX (x : Nat × Nat) : Nat × Nat := (x.1 % 18446744069414584321, x.2 % 18446744069414584321)
theorem rredN_any (x : Nat) (w : World) (hx : x < 18446744073709551616) : Calls Tryd.prog 43 #[.int .u64 (x : Int)] w fun e w' => e = .returned (.int .u64 ((x % 18446744069414584321 : Nat) : Int)) ∧ w' = w := by
  refine (rreduce_any _ w (by unfold U64; omega)).mono ?_
  rintro e _ ⟨rfl, rfl⟩
  exact ⟨by unfold fred; rfl, rfl⟩
set_option maxHeartbeats 4000000 in
theorem rmadeE_any (A : Option Addr) (n c : Nat) (xs : List (Nat × Nat)) (w : World) (h : XbT w A n c xs) (hn : n ≤ 1000) :
    Calls Tryd.prog 30 #[.slice A n c] w fun e w' => ∃ v, e = .returned v ∧ OwX w' w.heap.size v n (xs.map redX) ∧ Below w.heap.size w w' := by
  have hcap := h.cap
  have htop := h.top
  have HX := Lib.hid h
  clear h
  go_enter Tryd.func30, Tryd.ntmps30
  go_upto_region 2 with fail
  have HO := Lib.hid (OwX.made w w.heap.size (Nat.le_refl _))
  have HB := Lib.hid ((Below.refl w.heap.size w).alloc (Nat.le_refl _) (.cells #[] 36))
  generalize w.alloc (.cells #[] 36) = w1 at *
  go_wp2_with fail
  go_loopw [3, 4] (fun v s wr => ∃ k : Nat, k ≤ n ∧ s = .int .i64 k ∧ OwX wr w.heap.size v k ((xs.map redX).take k) ∧ Below w.heap.size w wr) (fun _ s _ => n - (intOf s).toNat)
  case atStart => exact ⟨0, Nat.zero_le _, rfl, HO.out, HB.out⟩
  case round =>
    clear HO HB
    obtain ⟨k, hk, rfl, ho, hb⟩ := hrel
    obtain ⟨C, f, rfl⟩ := ho.form
    have HO := Lib.hid ho
    have HB := Lib.hid hb
    by_cases hlt : k < n
    · have hk1 : (k : Int) < (n : Int) := by omega
      have hk0 : (0 : Int) ≤ (k : Int) := by omega
      obtain ⟨x, hx⟩ : ∃ x, xs[k]? = some x := ⟨xs[k]'(by have := HX.out.len; omega), List.getElem?_eq_getElem _⟩
      have hx1 := HX.out.lt x (List.mem_of_getElem? hx)
      have hcx := HX.out.cells k x hx
      obtain ⟨p, q⟩ := x
      obtain ⟨ad, rfl, c0, c1⟩ := hcx
      have HXK := Lib.hid hx
      have hx2 : p < 18446744073709551616 ∧ q < 18446744073709551616 := hx1
      have HC : Hid (∀ W, Below w.heap.size w W → W.cell? (ad.add (k * 2)) = some (.int .u64 (p : Int)) ∧ W.cell? ⟨(ad.add (k * 2)).block, (ad.add (k * 2)).off + 1, none⟩ = some (.int .u64 (q : Int))) := Lib.hid fun W hW => ⟨cell_keep c0 hW, cell_keep c1 hW⟩
      have HO1 := Lib.hid (HO.out.keep ((Below.refl wr.heap.size wr).drew))
      have HB1 := Lib.hid HB.out.drew
      clear ho hb hx c0 c1 hx1
      go_upto_region 5 with fail
      refine wp_ordA (fun W => Below w.heap.size w W) [(0, true), (1, true), (2, true), (3, true), (4, true), (5, true), (7, true), (8, true), (9, true), (10, true), (11, true), (6, false), (12, false), (13, true), (14, false), (15, false), (16, true)] (by kernel_rfl) (by kernel_rfl) (fun _ _ dt _ _ h => by cases dt <;> exact h) rfl (by kernel_rfl) HB1.out ?_
      refine wpO_val (.slice C (k) f) rfl rfl (fun W hW => rfl) ?_
      simp only [Act.put, List.setIfInBounds_toArray, List.set_cons_zero, List.set_cons_succ]
      refine wpO_val (.slice (some ad) n c) rfl rfl (fun W hW => rfl) ?_
      simp only [Act.put, List.setIfInBounds_toArray, List.set_cons_zero, List.set_cons_succ]
      refine wpO_val (.int .i64 (k : Int)) rfl rfl (fun W hW => rfl) ?_
      simp only [Act.put, List.setIfInBounds_toArray, List.set_cons_zero, List.set_cons_succ]
      refine wpO_val (.pointer (some (ad.add (k * 2)))) rfl rfl (fun W hW => exec_idxT10 ad n c k hlt rfl rfl rfl W) ?_
      simp only [Act.put, List.setIfInBounds_toArray, List.set_cons_zero, List.set_cons_succ]
      refine wpO_val (.pointer (some (ad.add (k * 2)))) rfl rfl (fun W hW => exec_fA0 (ad.add (k * 2)) rfl rfl W) ?_
      simp only [Act.put, List.setIfInBounds_toArray, List.set_cons_zero, List.set_cons_succ]
      refine wpO_val (.int .u64 (p : Int)) rfl rfl (fun W hW => exec_loadU _ (p : Int) (HC.out W hW).1 rfl rfl) ?_
      simp only [Act.put, List.setIfInBounds_toArray, List.set_cons_zero, List.set_cons_succ]
      refine wpO_val (.slice (some ad) n c) rfl rfl (fun W hW => rfl) ?_
      simp only [Act.put, List.setIfInBounds_toArray, List.set_cons_zero, List.set_cons_succ]
      refine wpO_val (.int .i64 (k : Int)) rfl rfl (fun W hW => rfl) ?_
      simp only [Act.put, List.setIfInBounds_toArray, List.set_cons_zero, List.set_cons_succ]
      refine wpO_val (.pointer (some (ad.add (k * 2)))) rfl rfl (fun W hW => exec_idxT10 ad n c k hlt rfl rfl rfl W) ?_
      simp only [Act.put, List.setIfInBounds_toArray, List.set_cons_zero, List.set_cons_succ]
      refine wpO_val (.pointer (some ⟨(ad.add (k * 2)).block, (ad.add (k * 2)).off + 1, none⟩)) rfl rfl (fun W hW => exec_fA1 (ad.add (k * 2)) rfl rfl W) ?_
      simp only [Act.put, List.setIfInBounds_toArray, List.set_cons_zero, List.set_cons_succ]
      refine wpO_val (.int .u64 (q : Int)) rfl rfl (fun W hW => exec_loadU _ (q : Int) (HC.out W hW).2 rfl rfl) ?_
      simp only [Act.put, List.setIfInBounds_toArray, List.set_cons_zero, List.set_cons_succ]
      refine wpO_op rfl (by kernel_rfl) ?_
      refine hOp_call 43 Tryd.func43 (by kernel_rfl) (by kernel_rfl) _ _ #[.int .u64 (p : Int)] rfl (by kernel_rfl) ?_
      refine (rredN_any p _ (by omega)).mono ?_
      rintro e _ ⟨rfl, rfl⟩
      refine ⟨_, rfl, HB1.out, ?_⟩
      simp only [Act.put, List.setIfInBounds_toArray, List.set_cons_zero, List.set_cons_succ]
      refine wpO_op rfl (by kernel_rfl) ?_
      refine hOp_call 43 Tryd.func43 (by kernel_rfl) (by kernel_rfl) _ _ #[.int .u64 (q : Int)] rfl (by kernel_rfl) ?_
      refine (rredN_any q _ (by omega)).mono ?_
      rintro e _ ⟨rfl, rfl⟩
      refine ⟨_, rfl, HB1.out, ?_⟩
      simp only [Act.put, List.setIfInBounds_toArray, List.set_cons_zero, List.set_cons_succ]
      refine wpO_val (.agg #[.int .u64 ((p % 18446744069414584321 : Nat) : Int), .int .u64 ((q % 18446744069414584321 : Nat) : Int)]) rfl rfl (fun W hW => exec_buildE _ _ rfl rfl rfl W) ?_
      simp only [Act.put, List.setIfInBounds_toArray, List.set_cons_zero, List.set_cons_succ]
      refine wpO_op rfl (by kernel_rfl) ?_
      unfold hOp
      rw [run_buildX (p % 18446744069414584321) (q % 18446744069414584321) rfl rfl]
      have hbA : Below wr.drew.heap.size wr.drew (wr.drew.alloc (.cells #[.int .u64 ((p % 18446744069414584321 : Nat) : Int), .int .u64 ((q % 18446744069414584321 : Nat) : Int)] 36)) := (Below.refl _ _).alloc (Nat.le_refl _) _
      have HB2 := Lib.hid (bel_step HB1.out hbA)
      have HO2 := Lib.hid (HO1.out.keep hbA)
      have H2 : Hid (Two (wr.drew.alloc (.cells #[.int .u64 ((p % 18446744069414584321 : Nat) : Int), .int .u64 ((q % 18446744069414584321 : Nat) : Int)] 36)) wr.drew.heap.size 36 (.int .u64 ((p % 18446744069414584321 : Nat) : Int)) (.int .u64 ((q % 18446744069414584321 : Nat) : Int))) := Lib.hid (heap_new wr.drew _)
      clear hbA
      refine ⟨HB2.out, ?_⟩
      simp only [Act.put, List.setIfInBounds_toArray, List.set_cons_zero, List.set_cons_succ]
      generalize wr.drew.alloc (.cells #[.int .u64 ((p % 18446744069414584321 : Nat) : Int), .int .u64 ((q % 18446744069414584321 : Nat) : Int)] 36) = V1 at *
      refine wpO_op rfl (by kernel_rfl) ?_
      refine hOp_appendX (.tmp 12) (.tmp 26) rfl w.heap.size _ k _ rfl HO2.out wr.drew.heap.size 1 (p % 18446744069414584321, q % 18446744069414584321) rfl H2.out (by omega) HB2.out.size ?_
      intro v2 w2 ho2 hg2
      have HO3 := Lib.hid ho2
      have HB3 := Lib.hid (grown_below HB2.out hg2 (fun b e => (World.ownsRow.lt HO2.out b e).1))
      clear ho2 hg2
      refine ⟨HB3.out, ?_⟩
      simp only [Act.put, List.setIfInBounds_toArray, List.set_cons_zero, List.set_cons_succ]
      refine wpO_val (v2) rfl rfl (fun W hW => rfl) ?_
      simp only [Act.put, List.setIfInBounds_toArray, List.set_cons_zero, List.set_cons_succ]
      refine wpO_nil ?_
      go_wp2_with fail
      go_roundw
      case rel =>
        refine ⟨k + 1, by omega, by go_num, ?_, HB3.out⟩
        have h1 := HO3.out
        rw [show (xs.map redX).take k ++ [(p % 18446744069414584321, q % 18446744069414584321)] = (xs.map redX).take (k + 1) by
          rw [List.take_add_one, List.getElem?_map, HXK.out]
          rfl] at h1
        exact h1
      case measure => simp [intOf]; omega
    · obtain rfl : k = n := by omega
      go_wp2_with fail
      go_ret
      refine ⟨_, rfl, ?_, HB.out⟩
      have h1 := HO.out
      rw [List.take_of_length_le (by rw [List.length_map]; have := HX.out.len; omega)] at h1
      exact h1
end Go.Proofs.YtcaoajeplinopaaDoor

