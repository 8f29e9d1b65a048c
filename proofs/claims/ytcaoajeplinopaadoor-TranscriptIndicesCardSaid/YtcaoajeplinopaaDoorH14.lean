/- Several texts in one: Tse, Mvg, Tsg, Ttg. -/
import Derived.Test.YtcaoajeplinopaaDoorH13
import Derived.Deep.Slices
import Derived.Laws.IdiomArrays
import Derived.Test.YtcaoajeplinopaaDoorH07
namespace Go.Proofs.YtcaoajeplinopaaDoor
set_option linter.unusedVariables false
set_option linter.unusedSimpArgs false
set_option maxRecDepth 8000
open Go.RowKit Gold
open Go.Shelf
attribute [local simp] z32_ne z32_run
attribute [-simp] Tryd.zeroValue30 Tryd.isAgg30 Tryd.sizeOf30
attribute [-simp] Tryd.zeroValue32 Tryd.isAgg32 Tryd.sizeOf32
attribute [local simp] z33_ne z33_run
attribute [local irreducible] wpList
theorem t_new : shaN ([97, 116, 116, 101, 115, 116, 111, 114, 0] ++ bytS ⟨#[]⟩) = tS := by
  unfold tS
  exact congrArg shaN (by simp [bytS])
theorem xb_one {w : World} {g p q : Nat} (h : w.heap[g]? = some (.cells #[.int .u64 (p : Int), .int .u64 (q : Int)] 36 (0, 0))) (hp : p < 18446744073709551616 := by decide) (hq : q < 18446744073709551616 := by decide) : XbT w (some ⟨g, 0, none⟩) 1 1 [(p, q)] :=
  ⟨rfl, Nat.le_refl _, by omega, (fun e => by cases e), fun x hx => by simp at hx; subst hx; exact ⟨hp, hq⟩, fun i x hx => by
    match i, hx with
    | 0, hx =>
      simp at hx
      subst hx
      exact ⟨_, rfl, cells_at h 0 rfl, cells_at h 1 rfl⟩
    | i + 1, hx => simp at hx⟩
theorem xb_nil (w : World) : XbT w none 0 0 [] := ⟨rfl, Nat.le_refl _, by omega, fun _ => rfl, fun x hx => (by cases hx), fun i x hx => by simp at hx⟩
theorem ib_four {w : World} {g : Nat} {a b c d : Int} {t : TypeId} (h : w.heap[g]? = some (.cells #[.int .i64 a, .int .i64 b, .int .i64 c, .int .i64 d] t (0, 0))) : Ib w (some ⟨g, 0, none⟩) 4 4 [a, b, c, d] :=
  ⟨rfl, Nat.le_refl _, by omega, (fun e => by cases e), fun i z hz => ⟨_, rfl, by
    rw [ad_base]
    match i, hz with
    | 0, hz => simp at hz; subst hz; exact cells_at h 0 rfl
    | 1, hz => simp at hz; subst hz; exact cells_at h 1 rfl
    | 2, hz => simp at hz; subst hz; exact cells_at h 2 rfl
    | 3, hz => simp at hz; subst hz; exact cells_at h 3 rfl
    | i + 4, hz => simp at hz⟩⟩
theorem OwZ.ib' {w : World} {base n c : Nat} {A : Option Addr} {is : List Int} (h : OwZ w base (.slice A n c) n is) : Ib w A n c is := by
  obtain ⟨A1, c1, e, hs⟩ := h.ib
  injection e with e1 e2 e3
  subst e1
  subst e3
  exact hs
section
variable {ev : Operand → Value} {o : Oper}
theorem exec_buildDr2 {x y : Operand} (a b : Int) (ho : o.op = .build 47 #[(0, x), (1, y)]) (hx : ev x = .int .i64 a) (hy : ev y = .int .i64 b) (w : World) : (execOp ev o).run Tryd.prog w = .ok (.value (.agg #[.int .i64 a, .int .i64 b])) w := by
  unfold execOp
  rw [ho]
  simp only [List.map_toArray, List.map_cons, List.map_nil, hx, hy]
  go_simp
theorem exec_buildDr1 {x : Operand} (a : Int) (ho : o.op = .build 47 #[(0, x)]) (hx : ev x = .int .i64 a) (w : World) : (execOp ev o).run Tryd.prog w = .ok (.value (.agg #[.int .i64 a, .int .i64 0])) w := by
  unfold execOp
  rw [ho]
  simp only [List.map_toArray, List.map_cons, List.map_nil, hx]
  go_simp
theorem exec_allocE (w : World) (ho : o.op = .alloc 36) : (execOp ev o).run Tryd.prog w = .ok (.value (ptr w.heap.size)) (w.alloc (.cells #[.int .u64 0, .int .u64 0] 36)) := by
  unfold execOp
  simp only [ho]
  go_simp
  try rfl
theorem run_buildI4 {x0 x1 x2 x3 : Operand} (a b c d : Int) (ho : o.op = .buildSlice 48 4 #[(0, x0), (1, x1), (2, x2), (3, x3)]) (h0 : ev x0 = .int .i64 a) (h1 : ev x1 = .int .i64 b) (h2 : ev x2 = .int .i64 c) (h3 : ev x3 = .int .i64 d) (w : World) :
    (execOp ev o).run Tryd.prog w = .ok (.value (.slice (some ⟨w.heap.size, 0, none⟩) 4 4)) (w.alloc (.cells #[.int .i64 a, .int .i64 b, .int .i64 c, .int .i64 d] 3)) := by
  unfold execOp
  rw [ho]
  simp only [List.map_toArray, List.map_cons, List.map_nil, h0, h1, h2, h3]
  go_simp
theorem exec_lenNil {x : Operand} (ho : o.op = .call { callee := .builtin .len, args := #[x], argTypes := #[48] }) (hx : ev x = .slice none 0 0) (w : World) : (execOp ev o).run Tryd.prog w = .ok (.value (.int .i64 0)) w := by
  unfold execOp
  simp only [ho]
  go_simp
theorem exec_loadEx {x : Operand} {w : World} (g : Nat) (a b : Value) (hc : w.heap[g]? = some (.cells #[a, b] 36 (0, 0))) (ho : o.op = .load 36 x) (hx : ev x = .pointer (some ⟨g, 0, none⟩)) :
    (execOp ev o).run Tryd.prog w = .ok (.value (.agg #[a, b])) w := by
  unfold execOp
  simp only [ho, hx, Instr.loadAt, Instr.sureAddr, Sem.run_bind, Sem.run_pure, Result.andThen_ok]
  rw [run_loadVar_row w g 36 36 _ (0, 0) _ hc Tryd.underlying36 rfl (by kernel_rfl)]
  rfl
theorem exec_eqDg {x y : Operand} {t : TypeId} (s : List Nat) (hl : s.length = 32) (hb : ∀ x ∈ s, x < 256) (ho : o.op = .binOp .eql 30 x y t) (hx : ev x = .agg (celB s).toArray) (hy : ev y = .agg (celB s).toArray) (w : World) : (execOp ev o).run Tryd.prog w = .ok (.value (.bool true)) w := by
  unfold execOp
  simp only [ho, hx, hy, Sem.run_bind]
  rw [run_eqGuard_agg _ _ _ _ _ _ _ (by kernel_rfl), Result.andThen_ok, run_eqD_same s hl hb w]
  rfl
theorem exec_neDg {x y : Operand} {t : TypeId} (s u : List Nat) (hl : s.length = 32) (hl2 : u.length = 32) (hb : ∀ x ∈ s, x < 256) (hb2 : ∀ x ∈ u, x < 256) (hn : s ≠ u) (ho : o.op = .binOp .neq 30 x y t) (hx : ev x = .agg (celB s).toArray) (hy : ev y = .agg (celB u).toArray) (w : World) : (execOp ev o).run Tryd.prog w = .ok (.value (.bool true)) w := by
  unfold execOp
  simp only [ho, hx, hy, Sem.run_bind]
  rw [run_eqGuard_agg _ _ _ _ _ _ _ (by kernel_rfl), Result.andThen_ok, run_neD w s u hl hl2 hb hb2, decide_eq_false hn]
  rfl
theorem exec_eqTr {x y : Operand} {t : TypeId} (s : List Nat) (c : Nat) (hl : s.length = 32) (hb : ∀ x ∈ s, x < 256) (ho : o.op = .binOp .eql 32 x y t) (hx : ev x = .agg (trC s c)) (hy : ev y = .agg (trC s c)) (w : World) : (execOp ev o).run Tryd.prog w = .ok (.value (.bool true)) w := by
  unfold execOp
  simp only [ho, hx, hy, Sem.run_bind]
  rw [run_eqGuard_agg _ _ _ _ _ _ _ (by kernel_rfl), Result.andThen_ok, run_eqTr s c hl hb w]
  rfl
theorem exec_neEx {x y : Operand} {t : TypeId} (a b c d : Int) (hn : ¬ a = c) (ho : o.op = .binOp .neq 36 x y t) (hx : ev x = .agg #[.int .u64 a, .int .u64 b]) (hy : ev y = .agg #[.int .u64 c, .int .u64 d]) (w : World) : (execOp ev o).run Tryd.prog w = .ok (.value (.bool true)) w := by
  unfold execOp
  simp only [ho, hx, hy, Sem.run_bind]
  rw [run_eqGuard_agg _ _ _ _ _ _ _ (by kernel_rfl), Result.andThen_ok, run_neX a b c d hn w]
  rfl
end
attribute [local irreducible] tS shaN outT leV
set_option maxRecDepth 100000 in
set_option maxHeartbeats 16000000 in
theorem sanity10_any (w : World) (hG : Gl w) : Calls Tryd.prog 11 #[] w fun e w' => e = .returned (.bool true) ∧ Below w.heap.size w w' := by
  have HG := Lib.hid hG
  clear hG
  obtain ⟨C2, hC2⟩ : ∃ x, lastC 0 (stopT (cdF tS tX 0 4) 4 16384) = x := ⟨_, rfl⟩
  have hC2p : 1 ≤ C2 := by rw [← hC2]; exact t_count _
  have HC2 := Lib.hid hC2
  obtain ⟨D1, hD1⟩ : ∃ x, outT tS 2 tA 0 = x := ⟨_, rfl⟩
  obtain ⟨D2, hD2⟩ : ∃ x, outT tS 2 tA 1 = x := ⟨_, rfl⟩
  obtain ⟨DA, hDA⟩ : ∃ x, shaN (tS ++ ([1, tM.size] ++ (bytS tM ++ (leN 1 ++ [7])))) = x := ⟨_, rfl⟩
  have hDAl : DA.length = 32 := by rw [← hDA]; exact shaN_length _
  have HDAb := Lib.hid (show ∀ x ∈ DA, x < 256 by rw [← hDA]; exact shaN_lt _)
  have HDAn := Lib.hid (show DA ≠ tS by rw [← hDA]; exact of_decide_eq_false t_abs)
  obtain ⟨x1, hx1⟩ : ∃ x, leV D1 0 % 18446744069414584321 = x := ⟨_, rfl⟩
  obtain ⟨y1, hy1⟩ : ∃ x, leV D1 8 % 18446744069414584321 = x := ⟨_, rfl⟩
  obtain ⟨x2, hx2⟩ : ∃ x, leV D2 0 % 18446744069414584321 = x := ⟨_, rfl⟩
  obtain ⟨y2, hy2⟩ : ∃ x, leV D2 8 % 18446744069414584321 = x := ⟨_, rfl⟩
  have hne0 : ¬ x1 = x2 := by rw [← hx1, ← hx2, ← hD1, ← hD2]; exact of_decide_eq_false t_first
  have hne : ¬ (x1 : Int) = (x2 : Int) := by omega
  have HD1 := Lib.hid hD1
  have HD2 := Lib.hid hD2
  have HDA := Lib.hid hDA
  have HX1 := Lib.hid hx1
  have HY1 := Lib.hid hy1
  have HX2 := Lib.hid hx2
  have HY2 := Lib.hid hy2
  clear hC2 hD1 hD2 hDA hx1 hy1 hx2 hy2 hne0
  go_enter Tryd.func11, Tryd.ntmps11
  go_upto_region 1 with fail
  refine wp_region_lit ?_
  refine wpList_call (by kernel_rfl) 15 Tryd.func15 (by kernel_rfl) (by kernel_rfl) _ _ #[.string ⟨#[]⟩] rfl (by kernel_rfl) ?_
  refine (new_any ⟨#[]⟩ w (by decide) HG.out tS t_new).mono ?_
  rintro e V1 ⟨rfl, hb⟩
  have B0 := Lib.hid hb
  clear hb 
  refine ⟨_, rfl, ?_⟩
  simp only [ptr, Act.put, List.setIfInBounds_toArray, List.set_cons_zero, List.set_cons_succ]
  refine wpList_decl z33 (trC tS 0) 32 (by kernel_rfl) (exec_allocT V1 rfl) (fun _ => by kernel_rfl) (fun b W h0 => exec_storeT b (List.replicate 32 0) 0 tS 0 List.length_replicate tS_length h0 rfl rfl rfl) ?_
  intro b1 V2 hge h1 hb
  have B1 := Lib.hid hb
  have T1 : Hid (RowT V2 b1 tS 0) := Lib.hid h1
  clear hge h1 hb
  simp only [ptr, Act.put, List.setIfInBounds_toArray, List.set_cons_zero, List.set_cons_succ]
  refine wpList_nil ?_
  go_upto_region 2 with fail
  refine wp_region_lit ?_
  refine wpList_run (by kernel_rfl) (.agg (trC tS 0)) V2 (exec_loadT b1 tS 0 tS_length T1.out rfl rfl) ?_
  simp only [ptr, Act.put, List.setIfInBounds_toArray, List.set_cons_zero, List.set_cons_succ]
  refine wpList_run (by kernel_rfl) (.agg #[.int .i64 4, .int .i64 4]) V2 (exec_buildDr2 4 4 rfl rfl rfl V2) ?_
  simp only [ptr, Act.put, List.setIfInBounds_toArray, List.set_cons_zero, List.set_cons_succ]
  refine wpList_call (by kernel_rfl) 26 Tryd.func26 (by kernel_rfl) (by kernel_rfl) _ _ #[.agg (trC tS 0), .string tX, .agg #[.int .i64 4, .int .i64 4]] rfl (by kernel_rfl) ?_
  refine (indices_any tS 0 tX 4 4 tS_length tS_lt (by decide) (by decide) (by decide) (by decide) (by decide) (by decide) (by decide) V2 (HG.out.keep (bel_step B0.out B1.out)) (cdF tS tX 0 4) rfl [0, 1, 2, 3] (t_pick _ fun i => Nat.mod_lt _ (by decide)) C2 HC2.out 4 4 rfl rfl).mono ?_
  rintro e V3 ⟨v3, rfl, ho3, hb⟩
  have B2 := Lib.hid hb
  obtain ⟨A3, c3, rfl, _⟩ := ho3.ib
  have O3 := Lib.hid ho3
  clear hb ho3
  refine ⟨_, rfl, ?_⟩
  simp only [ptr, Act.put, List.setIfInBounds_toArray, List.set_cons_zero, List.set_cons_succ]
  refine wpList_run (by kernel_rfl) (.tuple #[.agg (trC tS C2), .slice A3 4 c3]) V3 rfl ?_
  simp only [ptr, Act.put, List.setIfInBounds_toArray, List.set_cons_zero, List.set_cons_succ]
  refine wpList_run (by kernel_rfl) (.agg (trC tS C2)) V3 rfl ?_
  simp only [ptr, Act.put, List.setIfInBounds_toArray, List.set_cons_zero, List.set_cons_succ]
  refine wpList_run (by kernel_rfl) (.slice A3 4 c3) V3 rfl ?_
  simp only [ptr, Act.put, List.setIfInBounds_toArray, List.set_cons_zero, List.set_cons_succ]
  refine wpList_decl z33 (trC tS C2) 32 (by kernel_rfl) (exec_allocT V3 rfl) (fun _ => by kernel_rfl) (fun b W h0 => exec_storeT b (List.replicate 32 0) 0 tS C2 List.length_replicate tS_length h0 rfl rfl rfl) ?_
  intro b2 V4 hge h1 hb
  have B3 := Lib.hid hb
  have T2 : Hid (RowT V4 b2 tS C2) := Lib.hid h1
  clear hge h1 hb
  simp only [ptr, Act.put, List.setIfInBounds_toArray, List.set_cons_zero, List.set_cons_succ]
  refine wpList_run (by kernel_rfl) (.slice A3 4 c3) V4 rfl ?_
  simp only [ptr, Act.put, List.setIfInBounds_toArray, List.set_cons_zero, List.set_cons_succ]
  refine wpList_nil ?_
  go_upto_region 3 with fail
  refine wp_region_lit ?_
  refine wpList_run (by kernel_rfl) (.agg (trC tS 0)) V4 (exec_loadT b1 tS 0 tS_length (T1.out.keep (bel_step B2.out B3.out)) rfl rfl) ?_
  simp only [ptr, Act.put, List.setIfInBounds_toArray, List.set_cons_zero, List.set_cons_succ]
  refine wpList_run (by kernel_rfl) (.agg #[.int .i64 4, .int .i64 5]) V4 (exec_buildDr2 4 5 rfl rfl rfl V4) ?_
  simp only [ptr, Act.put, List.setIfInBounds_toArray, List.set_cons_zero, List.set_cons_succ]
  refine wpList_call (by kernel_rfl) 26 Tryd.func26 (by kernel_rfl) (by kernel_rfl) _ _ #[.agg (trC tS 0), .string tX, .agg #[.int .i64 4, .int .i64 5]] rfl (by kernel_rfl) ?_
  refine (indices_nil tS 0 tX 4 5 tS_length (.inl t_poss) V4).mono ?_
  rintro e V5 ⟨rfl, hb⟩
  have B4 := Lib.hid hb
  clear hb 
  refine ⟨_, rfl, ?_⟩
  simp only [ptr, Act.put, List.setIfInBounds_toArray, List.set_cons_zero, List.set_cons_succ]
  refine wpList_run (by kernel_rfl) (.tuple #[.agg (trC tS 0), .slice none 0 0]) V5 rfl ?_
  simp only [ptr, Act.put, List.setIfInBounds_toArray, List.set_cons_zero, List.set_cons_succ]
  refine wpList_run (by kernel_rfl) (.agg (trC tS 0)) V5 rfl ?_
  simp only [ptr, Act.put, List.setIfInBounds_toArray, List.set_cons_zero, List.set_cons_succ]
  refine wpList_run (by kernel_rfl) (.slice none 0 0) V5 rfl ?_
  simp only [ptr, Act.put, List.setIfInBounds_toArray, List.set_cons_zero, List.set_cons_succ]
  refine wpList_decl z33 (trC tS 0) 32 (by kernel_rfl) (exec_allocT V5 rfl) (fun _ => by kernel_rfl) (fun b W h0 => exec_storeT b (List.replicate 32 0) 0 tS 0 List.length_replicate tS_length h0 rfl rfl rfl) ?_
  intro b4 V6 hge h1 hb
  have B5 := Lib.hid hb
  have T4 : Hid (RowT V6 b4 tS 0) := Lib.hid h1
  clear hge h1 hb
  simp only [ptr, Act.put, List.setIfInBounds_toArray, List.set_cons_zero, List.set_cons_succ]
  refine wpList_run (by kernel_rfl) (.slice none 0 0) V6 rfl ?_
  simp only [ptr, Act.put, List.setIfInBounds_toArray, List.set_cons_zero, List.set_cons_succ]
  refine wpList_nil ?_
  go_upto_region 4 with fail
  refine wp_region_lit ?_
  refine wpList_run (by kernel_rfl) (.agg (trC tS 0)) V6 (exec_loadT b1 tS 0 tS_length (T1.out.keep (bel_step B2.out (bel_step B3.out (bel_step B4.out B5.out)))) rfl rfl) ?_
  simp only [ptr, Act.put, List.setIfInBounds_toArray, List.set_cons_zero, List.set_cons_succ]
  refine wpList_run (by kernel_rfl) (.agg #[.int .i64 4, .int .i64 0]) V6 (exec_buildDr1 4 rfl rfl V6) ?_
  simp only [ptr, Act.put, List.setIfInBounds_toArray, List.set_cons_zero, List.set_cons_succ]
  refine wpList_call (by kernel_rfl) 26 Tryd.func26 (by kernel_rfl) (by kernel_rfl) _ _ #[.agg (trC tS 0), .string tX, .agg #[.int .i64 4, .int .i64 0]] rfl (by kernel_rfl) ?_
  refine (indices_nil tS 0 tX 4 0 tS_length (.inr rfl) V6).mono ?_
  rintro e V7 ⟨rfl, hb⟩
  have B6 := Lib.hid hb
  clear hb 
  refine ⟨_, rfl, ?_⟩
  simp only [ptr, Act.put, List.setIfInBounds_toArray, List.set_cons_zero, List.set_cons_succ]
  refine wpList_run (by kernel_rfl) (.tuple #[.agg (trC tS 0), .slice none 0 0]) V7 rfl ?_
  simp only [ptr, Act.put, List.setIfInBounds_toArray, List.set_cons_zero, List.set_cons_succ]
  refine wpList_run (by kernel_rfl) (.agg (trC tS 0)) V7 rfl ?_
  simp only [ptr, Act.put, List.setIfInBounds_toArray, List.set_cons_zero, List.set_cons_succ]
  refine wpList_run (by kernel_rfl) (.slice none 0 0) V7 rfl ?_
  simp only [ptr, Act.put, List.setIfInBounds_toArray, List.set_cons_zero, List.set_cons_succ]
  refine wpList_decl z33 (trC tS 0) 32 (by kernel_rfl) (exec_allocT V7 rfl) (fun _ => by kernel_rfl) (fun b W h0 => exec_storeT b (List.replicate 32 0) 0 tS 0 List.length_replicate tS_length h0 rfl rfl rfl) ?_
  intro b6 V8 hge h1 hb
  have B7 := Lib.hid hb
  have T6 : Hid (RowT V8 b6 tS 0) := Lib.hid h1
  clear hge h1 hb
  simp only [ptr, Act.put, List.setIfInBounds_toArray, List.set_cons_zero, List.set_cons_succ]
  refine wpList_run (by kernel_rfl) (.slice none 0 0) V8 rfl ?_
  simp only [ptr, Act.put, List.setIfInBounds_toArray, List.set_cons_zero, List.set_cons_succ]
  refine wpList_nil ?_
  go_upto_region 5 with fail
  refine wp_region_lit ?_
  refine wpList_run (by kernel_rfl) (.agg (trC tS 0)) V8 (exec_loadT b1 tS 0 tS_length (T1.out.keep (bel_step B2.out (bel_step B3.out (bel_step B4.out (bel_step B5.out (bel_step B6.out B7.out)))))) rfl rfl) ?_
  simp only [ptr, Act.put, List.setIfInBounds_toArray, List.set_cons_zero, List.set_cons_succ]
  refine wpList_call (by kernel_rfl) 13 Tryd.func13 (by kernel_rfl) (by kernel_rfl) _ _ #[.agg (trC tS 0), .string tA] rfl (by kernel_rfl) ?_
  refine (challenge_any tS tA 0 V8 tS_length tS_lt (by decide) (by decide) (HG.out.keep (bel_step B0.out (bel_step B1.out (bel_step B2.out (bel_step B3.out (bel_step B4.out (bel_step B5.out (bel_step B6.out B7.out)))))))) D1 HD1.out 1 rfl x1 y1 HX1.out HY1.out).mono ?_
  rintro e V9 ⟨rfl, hb⟩
  have B8 := Lib.hid hb
  clear hb 
  refine ⟨_, rfl, ?_⟩
  simp only [ptr, Act.put, List.setIfInBounds_toArray, List.set_cons_zero, List.set_cons_succ]
  refine wpList_run (by kernel_rfl) (.tuple #[.agg (trC tS 1), .agg #[.int .u64 (x1 : Int), .int .u64 (y1 : Int)]]) V9 rfl ?_
  simp only [ptr, Act.put, List.setIfInBounds_toArray, List.set_cons_zero, List.set_cons_succ]
  refine wpList_run (by kernel_rfl) (.agg (trC tS 1)) V9 rfl ?_
  simp only [ptr, Act.put, List.setIfInBounds_toArray, List.set_cons_zero, List.set_cons_succ]
  refine wpList_run (by kernel_rfl) (.agg #[.int .u64 (x1 : Int), .int .u64 (y1 : Int)]) V9 rfl ?_
  simp only [ptr, Act.put, List.setIfInBounds_toArray, List.set_cons_zero, List.set_cons_succ]
  refine wpList_decl2 z33 #[.int .u64 0, .int .u64 0] (trC tS 1) #[.int .u64 (x1 : Int), .int .u64 (y1 : Int)] 32 36 (by kernel_rfl) (fun W => exec_allocT W rfl) (fun _ => by kernel_rfl) (fun _ W => exec_allocE W rfl) (fun _ _ => by kernel_rfl) (fun b d W h0 => exec_storeT b (List.replicate 32 0) 0 tS 1 List.length_replicate tS_length h0 rfl rfl rfl) (fun _ _ => by kernel_rfl) (fun b d W h0 => exec_storeE d _ _ (x1 : Int) (y1 : Int) rfl rfl rfl h0) ?_
  intro b8 b9 V10 hge hlt h1 h2 hb
  have B9 := Lib.hid hb
  have T8 : Hid (RowT V10 b8 tS 1) := Lib.hid h1
  have E9 : Hid (V10.heap[b9]? = some (.cells #[.int .u64 (x1 : Int), .int .u64 (y1 : Int)] 36 (0, 0))) := Lib.hid h2
  clear hge hlt h1 h2 hb
  simp only [ptr, Act.put, List.setIfInBounds_toArray, List.set_cons_zero, List.set_cons_succ]
  refine wpList_nil ?_
  go_upto_region 6 with fail
  refine wp_region_lit ?_
  refine wpList_run (by kernel_rfl) (.agg (trC tS 1)) V10 (exec_loadT b8 tS 1 tS_length T8.out rfl rfl) ?_
  simp only [ptr, Act.put, List.setIfInBounds_toArray, List.set_cons_zero, List.set_cons_succ]
  refine wpList_call (by kernel_rfl) 13 Tryd.func13 (by kernel_rfl) (by kernel_rfl) _ _ #[.agg (trC tS 1), .string tA] rfl (by kernel_rfl) ?_
  refine (challenge_any tS tA 1 V10 tS_length tS_lt (by decide) (by decide) (HG.out.keep (bel_step B0.out (bel_step B1.out (bel_step B2.out (bel_step B3.out (bel_step B4.out (bel_step B5.out (bel_step B6.out (bel_step B7.out (bel_step B8.out B9.out)))))))))) D2 HD2.out 2 rfl x2 y2 HX2.out HY2.out).mono ?_
  rintro e V11 ⟨rfl, hb⟩
  have B10 := Lib.hid hb
  clear hb 
  refine ⟨_, rfl, ?_⟩
  simp only [ptr, Act.put, List.setIfInBounds_toArray, List.set_cons_zero, List.set_cons_succ]
  refine wpList_run (by kernel_rfl) (.tuple #[.agg (trC tS 2), .agg #[.int .u64 (x2 : Int), .int .u64 (y2 : Int)]]) V11 rfl ?_
  simp only [ptr, Act.put, List.setIfInBounds_toArray, List.set_cons_zero, List.set_cons_succ]
  refine wpList_run (by kernel_rfl) (.agg (trC tS 2)) V11 rfl ?_
  simp only [ptr, Act.put, List.setIfInBounds_toArray, List.set_cons_zero, List.set_cons_succ]
  refine wpList_run (by kernel_rfl) (.agg #[.int .u64 (x2 : Int), .int .u64 (y2 : Int)]) V11 rfl ?_
  simp only [ptr, Act.put, List.setIfInBounds_toArray, List.set_cons_zero, List.set_cons_succ]
  refine wpList_decl2 z33 #[.int .u64 0, .int .u64 0] (trC tS 2) #[.int .u64 (x2 : Int), .int .u64 (y2 : Int)] 32 36 (by kernel_rfl) (fun W => exec_allocT W rfl) (fun _ => by kernel_rfl) (fun _ W => exec_allocE W rfl) (fun _ _ => by kernel_rfl) (fun b d W h0 => exec_storeT b (List.replicate 32 0) 0 tS 2 List.length_replicate tS_length h0 rfl rfl rfl) (fun _ _ => by kernel_rfl) (fun b d W h0 => exec_storeE d _ _ (x2 : Int) (y2 : Int) rfl rfl rfl h0) ?_
  intro b10 b11 V12 hge hlt h1 h2 hb
  have B11 := Lib.hid hb
  have T10 : Hid (RowT V12 b10 tS 2) := Lib.hid h1
  have E11 : Hid (V12.heap[b11]? = some (.cells #[.int .u64 (x2 : Int), .int .u64 (y2 : Int)] 36 (0, 0))) := Lib.hid h2
  clear hge hlt h1 h2 hb
  simp only [ptr, Act.put, List.setIfInBounds_toArray, List.set_cons_zero, List.set_cons_succ]
  refine wpList_nil ?_
  go_upto_region 7 with fail
  refine wp_region_lit ?_
  refine wpList_run (by kernel_rfl) (.agg #[.int .u64 ((1 : Nat) : Int), .int .u64 ((256 : Nat) : Int)]) V12 (exec_buildE _ _ rfl rfl rfl V12) ?_
  simp only [ptr, Act.put, List.setIfInBounds_toArray, List.set_cons_zero, List.set_cons_succ]
  refine wpList_mk (by kernel_rfl) #[.int .u64 ((1 : Nat) : Int), .int .u64 ((256 : Nat) : Int)] 36 1 1 (run_buildX 1 256 rfl rfl) ?_
  intro g44 V13 hge h1 hb
  have B12 := Lib.hid hb
  have M44 : Hid (XbT V13 (some ⟨g44, 0, none⟩) 1 1 [(1, 256)]) := Lib.hid (xb_one h1)
  clear hge h1 hb
  simp only [ptr, Act.put, List.setIfInBounds_toArray, List.set_cons_zero, List.set_cons_succ]
  refine wpList_call (by kernel_rfl) 24 Tryd.func24 (by kernel_rfl) (by kernel_rfl) _ _ #[.slice (some ⟨g44, 0, none⟩) 1 1] rfl (by kernel_rfl) ?_
  refine (bytes_any _ 1 1 [(1, 256)] V13 M44.out (by decide)).mono ?_
  rintro e V14 ⟨v12, rfl, ho12, hb⟩
  have B13 := Lib.hid hb
  obtain ⟨A12, c12, rfl, _⟩ := ho12.sl
  have O12 := Lib.hid ho12
  clear hb ho12
  refine ⟨_, rfl, ?_⟩
  simp only [ptr, Act.put, List.setIfInBounds_toArray, List.set_cons_zero, List.set_cons_succ]
  refine wpList_run (by kernel_rfl) (.slice A12 (16 * 1) c12) V14 rfl ?_
  simp only [ptr, Act.put, List.setIfInBounds_toArray, List.set_cons_zero, List.set_cons_succ]
  refine wpList_nil ?_
  go_upto_region 8 with fail
  refine wp_region_lit ?_
  refine wpList_run (by kernel_rfl) (.agg (trC tS 2)) V14 (exec_loadT b10 tS 2 tS_length (T10.out.keep (bel_step B12.out B13.out)) rfl rfl) ?_
  simp only [ptr, Act.put, List.setIfInBounds_toArray, List.set_cons_zero, List.set_cons_succ]
  refine wpList_mk (by kernel_rfl) #[.int .u8 ((7 : Nat) : Int)] 5 1 1 (run_buildB1' 7 rfl rfl _) ?_
  intro g47 V15 hge h1 hb
  have B14 := Lib.hid hb
  have M47 : Hid (Sb V15 (some ⟨g47, 0, none⟩) 1 1 [7]) := Lib.hid (sb_cells1 (by decide) h1)
  clear hge h1 hb
  simp only [ptr, Act.put, List.setIfInBounds_toArray, List.set_cons_zero, List.set_cons_succ]
  refine wpList_call (by kernel_rfl) 17 Tryd.func17 (by kernel_rfl) (by kernel_rfl) _ _ #[.agg (trC tS 2), .string tM, .slice (some ⟨g47, 0, none⟩) 1 1] rfl (by kernel_rfl) ?_
  refine (absorb_any tS 2 tM _ 1 1 [7] V15 tS_length tS_lt (by decide) M47.out (by decide) (HG.out.keep (bel_step B0.out (bel_step B1.out (bel_step B2.out (bel_step B3.out (bel_step B4.out (bel_step B5.out (bel_step B6.out (bel_step B7.out (bel_step B8.out (bel_step B9.out (bel_step B10.out (bel_step B11.out (bel_step B12.out (bel_step B13.out B14.out))))))))))))))) DA HDA.out).mono ?_
  rintro e V16 ⟨rfl, hb⟩
  have B15 := Lib.hid hb
  clear hb 
  refine ⟨_, rfl, ?_⟩
  simp only [ptr, Act.put, List.setIfInBounds_toArray, List.set_cons_zero, List.set_cons_succ]
  refine wpList_decl z33 (trC DA 0) 32 (by kernel_rfl) (exec_allocT V16 rfl) (fun _ => by kernel_rfl) (fun b W h0 => exec_storeT b (List.replicate 32 0) 0 DA 0 List.length_replicate hDAl h0 rfl rfl rfl) ?_
  intro b13 V17 hge h1 hb
  have B16 := Lib.hid hb
  have T13 : Hid (RowT V17 b13 DA 0) := Lib.hid h1
  clear hge h1 hb
  simp only [ptr, Act.put, List.setIfInBounds_toArray, List.set_cons_zero, List.set_cons_succ]
  refine wpList_nil ?_
  go_upto_region 9 with fail
  refine wp_region_lit ?_
  refine wpList_run (by kernel_rfl) (.pointer (some ⟨b1, 0, none⟩)) V17 (exec_fT0 b1 rfl rfl V17) ?_
  simp only [ptr, Act.put, List.setIfInBounds_toArray, List.set_cons_zero, List.set_cons_succ]
  refine wpList_run (by kernel_rfl) (.agg (celB tS).toArray) V17 (exec_loadTs b1 tS 0 tS_length (T1.out.keep (bel_step B2.out (bel_step B3.out (bel_step B4.out (bel_step B5.out (bel_step B6.out (bel_step B7.out (bel_step B8.out (bel_step B9.out (bel_step B10.out (bel_step B11.out (bel_step B12.out (bel_step B13.out (bel_step B14.out (bel_step B15.out B16.out))))))))))))))) rfl rfl) ?_
  simp only [ptr, Act.put, List.setIfInBounds_toArray, List.set_cons_zero, List.set_cons_succ]
  refine wpList_call (by kernel_rfl) 36 Tryd.func36 (by kernel_rfl) (by kernel_rfl) _ _ #[.agg (celB tS).toArray] rfl (by kernel_rfl) ?_
  refine (rhex_as tS ⟨#[100, 52, 49, 102, 51, 55, 98, 51, 50, 49, 48, 98, 51, 57, 53, 100, 98, 48, 51, 50, 57, 57, 98, 100, 53, 51, 55, 52, 100, 97, 51, 53, 56, 98, 100, 51, 98, 51, 51, 99, 100, 100, 100, 98, 48, 100, 100, 99, 55, 57, 50, 50, 52, 55, 49, 56, 56, 52, 101, 49, 97, 53, 101, 98]⟩ V17 tS_length tS_lt tS_hex).mono ?_
  rintro e V18 ⟨rfl, hb⟩
  have B17 := Lib.hid hb
  clear hb 
  refine ⟨_, rfl, ?_⟩
  simp only [ptr, Act.put, List.setIfInBounds_toArray, List.set_cons_zero, List.set_cons_succ]
  refine wpList_run (by kernel_rfl) (.bool true) V18 (exec_eqStr _ rfl rfl rfl) ?_
  simp only [ptr, Act.put, List.setIfInBounds_toArray, List.set_cons_zero, List.set_cons_succ]
  refine wpList_run (by kernel_rfl) (.bool true) V18 rfl ?_
  simp only [ptr, Act.put, List.setIfInBounds_toArray, List.set_cons_zero, List.set_cons_succ]
  refine wpList_run (by kernel_rfl) (.pointer (some ⟨b1, 32, none⟩)) V18 (exec_fT1 b1 rfl rfl V18) ?_
  simp only [ptr, Act.put, List.setIfInBounds_toArray, List.set_cons_zero, List.set_cons_succ]
  refine wpList_run (by kernel_rfl) (.int .u64 ((0 : Nat) : Int)) V18 (exec_loadU ⟨b1, 32, none⟩ _ ((T1.out.keep (bel_step B2.out (bel_step B3.out (bel_step B4.out (bel_step B5.out (bel_step B6.out (bel_step B7.out (bel_step B8.out (bel_step B9.out (bel_step B10.out (bel_step B11.out (bel_step B12.out (bel_step B13.out (bel_step B14.out (bel_step B15.out (bel_step B16.out B17.out)))))))))))))))).count tS_length) rfl rfl) ?_
  simp only [ptr, Act.put, List.setIfInBounds_toArray, List.set_cons_zero, List.set_cons_succ]
  refine wpList_run (by kernel_rfl) (.bool true) V18 (exec_eqU _ _ rfl rfl rfl rfl) ?_
  simp only [ptr, Act.put, List.setIfInBounds_toArray, List.set_cons_zero, List.set_cons_succ]
  refine wpList_run (by kernel_rfl) (.bool true) V18 rfl ?_
  simp only [ptr, Act.put, List.setIfInBounds_toArray, List.set_cons_zero, List.set_cons_succ]
  refine wpList_run (by kernel_rfl) (.bool true) V18 rfl ?_
  simp only [ptr, Act.put, List.setIfInBounds_toArray, List.set_cons_zero, List.set_cons_succ]
  refine wpList_run (by kernel_rfl) (.slice A3 4 c3) V18 rfl ?_
  simp only [ptr, Act.put, List.setIfInBounds_toArray, List.set_cons_zero, List.set_cons_succ]
  refine wpList_mk (by kernel_rfl) #[.int .i64 0, .int .i64 1, .int .i64 2, .int .i64 3] 3 4 4 (run_buildI4 0 1 2 3 rfl rfl rfl rfl rfl _) ?_
  intro g60 V19 hge h1 hb
  have B18 := Lib.hid hb
  have M60 : Hid (Ib V19 (some ⟨g60, 0, none⟩) 4 4 [0, 1, 2, 3]) := Lib.hid (ib_four h1)
  clear hge h1 hb
  simp only [ptr, Act.put, List.setIfInBounds_toArray, List.set_cons_zero, List.set_cons_succ]
  refine wpList_call (by kernel_rfl) 28 Tryd.func28 (by kernel_rfl) (by kernel_rfl) _ _ #[.slice A3 4 c3, .slice (some ⟨g60, 0, none⟩) 4 4] rfl (by kernel_rfl) ?_
  refine (rsameInts_yes _ 4 _ _ 4 _ [0, 1, 2, 3] V19 (O3.out.keep (bel_step B3.out (bel_step B4.out (bel_step B5.out (bel_step B6.out (bel_step B7.out (bel_step B8.out (bel_step B9.out (bel_step B10.out (bel_step B11.out (bel_step B12.out (bel_step B13.out (bel_step B14.out (bel_step B15.out (bel_step B16.out (bel_step B17.out B18.out)))))))))))))))).ib' M60.out).mono ?_
  rintro e V20 ⟨rfl, hb⟩
  have B19 := Lib.hid hb
  clear hb 
  refine ⟨_, rfl, ?_⟩
  simp only [ptr, Act.put, List.setIfInBounds_toArray, List.set_cons_zero, List.set_cons_succ]
  refine wpList_run (by kernel_rfl) (.bool true) V20 rfl ?_
  simp only [ptr, Act.put, List.setIfInBounds_toArray, List.set_cons_zero, List.set_cons_succ]
  refine wpList_run (by kernel_rfl) (.bool true) V20 rfl ?_
  simp only [ptr, Act.put, List.setIfInBounds_toArray, List.set_cons_zero, List.set_cons_succ]
  refine wpList_run (by kernel_rfl) (.pointer (some ⟨b2, 0, none⟩)) V20 (exec_fT0 b2 rfl rfl V20) ?_
  simp only [ptr, Act.put, List.setIfInBounds_toArray, List.set_cons_zero, List.set_cons_succ]
  refine wpList_run (by kernel_rfl) (.agg (celB tS).toArray) V20 (exec_loadTs b2 tS C2 tS_length (T2.out.keep (bel_step B4.out (bel_step B5.out (bel_step B6.out (bel_step B7.out (bel_step B8.out (bel_step B9.out (bel_step B10.out (bel_step B11.out (bel_step B12.out (bel_step B13.out (bel_step B14.out (bel_step B15.out (bel_step B16.out (bel_step B17.out (bel_step B18.out B19.out)))))))))))))))) rfl rfl) ?_
  simp only [ptr, Act.put, List.setIfInBounds_toArray, List.set_cons_zero, List.set_cons_succ]
  refine wpList_run (by kernel_rfl) (.pointer (some ⟨b1, 0, none⟩)) V20 (exec_fT0 b1 rfl rfl V20) ?_
  simp only [ptr, Act.put, List.setIfInBounds_toArray, List.set_cons_zero, List.set_cons_succ]
  refine wpList_run (by kernel_rfl) (.agg (celB tS).toArray) V20 (exec_loadTs b1 tS 0 tS_length (T1.out.keep (bel_step B2.out (bel_step B3.out (bel_step B4.out (bel_step B5.out (bel_step B6.out (bel_step B7.out (bel_step B8.out (bel_step B9.out (bel_step B10.out (bel_step B11.out (bel_step B12.out (bel_step B13.out (bel_step B14.out (bel_step B15.out (bel_step B16.out (bel_step B17.out (bel_step B18.out B19.out)))))))))))))))))) rfl rfl) ?_
  simp only [ptr, Act.put, List.setIfInBounds_toArray, List.set_cons_zero, List.set_cons_succ]
  refine wpList_run (by kernel_rfl) (.bool true) V20 (exec_eqDg tS tS_length tS_lt rfl rfl rfl V20) ?_
  simp only [ptr, Act.put, List.setIfInBounds_toArray, List.set_cons_zero, List.set_cons_succ]
  refine wpList_run (by kernel_rfl) (.bool true) V20 rfl ?_
  simp only [ptr, Act.put, List.setIfInBounds_toArray, List.set_cons_zero, List.set_cons_succ]
  refine wpList_run (by kernel_rfl) (.bool true) V20 rfl ?_
  simp only [ptr, Act.put, List.setIfInBounds_toArray, List.set_cons_zero, List.set_cons_succ]
  refine wpList_run (by kernel_rfl) (.pointer (some ⟨b2, 32, none⟩)) V20 (exec_fT1 b2 rfl rfl V20) ?_
  simp only [ptr, Act.put, List.setIfInBounds_toArray, List.set_cons_zero, List.set_cons_succ]
  refine wpList_run (by kernel_rfl) (.int .u64 ((C2 : Nat) : Int)) V20 (exec_loadU ⟨b2, 32, none⟩ _ ((T2.out.keep (bel_step B4.out (bel_step B5.out (bel_step B6.out (bel_step B7.out (bel_step B8.out (bel_step B9.out (bel_step B10.out (bel_step B11.out (bel_step B12.out (bel_step B13.out (bel_step B14.out (bel_step B15.out (bel_step B16.out (bel_step B17.out (bel_step B18.out B19.out)))))))))))))))).count tS_length) rfl rfl) ?_
  simp only [ptr, Act.put, List.setIfInBounds_toArray, List.set_cons_zero, List.set_cons_succ]
  refine wpList_run (by kernel_rfl) (.bool true) V20 (exec_geU _ _ (by omega) rfl rfl rfl) ?_
  simp only [ptr, Act.put, List.setIfInBounds_toArray, List.set_cons_zero, List.set_cons_succ]
  refine wpList_run (by kernel_rfl) (.bool true) V20 rfl ?_
  simp only [ptr, Act.put, List.setIfInBounds_toArray, List.set_cons_zero, List.set_cons_succ]
  refine wpList_run (by kernel_rfl) (.bool true) V20 rfl ?_
  simp only [ptr, Act.put, List.setIfInBounds_toArray, List.set_cons_zero, List.set_cons_succ]
  refine wpList_run (by kernel_rfl) (.slice none 0 0) V20 rfl ?_
  simp only [ptr, Act.put, List.setIfInBounds_toArray, List.set_cons_zero, List.set_cons_succ]
  refine wpList_run (by kernel_rfl) (.int .i64 0) V20 (exec_lenNil rfl rfl V20) ?_
  simp only [ptr, Act.put, List.setIfInBounds_toArray, List.set_cons_zero, List.set_cons_succ]
  refine wpList_run (by kernel_rfl) (.bool true) V20 (exec_eqI 0 0 true rfl rfl rfl rfl) ?_
  simp only [ptr, Act.put, List.setIfInBounds_toArray, List.set_cons_zero, List.set_cons_succ]
  refine wpList_run (by kernel_rfl) (.bool true) V20 rfl ?_
  simp only [ptr, Act.put, List.setIfInBounds_toArray, List.set_cons_zero, List.set_cons_succ]
  refine wpList_run (by kernel_rfl) (.bool true) V20 rfl ?_
  simp only [ptr, Act.put, List.setIfInBounds_toArray, List.set_cons_zero, List.set_cons_succ]
  refine wpList_run (by kernel_rfl) (.agg (trC tS 0)) V20 (exec_loadT b4 tS 0 tS_length (T4.out.keep (bel_step B6.out (bel_step B7.out (bel_step B8.out (bel_step B9.out (bel_step B10.out (bel_step B11.out (bel_step B12.out (bel_step B13.out (bel_step B14.out (bel_step B15.out (bel_step B16.out (bel_step B17.out (bel_step B18.out B19.out)))))))))))))) rfl rfl) ?_
  simp only [ptr, Act.put, List.setIfInBounds_toArray, List.set_cons_zero, List.set_cons_succ]
  refine wpList_run (by kernel_rfl) (.agg (trC tS 0)) V20 (exec_loadT b1 tS 0 tS_length (T1.out.keep (bel_step B2.out (bel_step B3.out (bel_step B4.out (bel_step B5.out (bel_step B6.out (bel_step B7.out (bel_step B8.out (bel_step B9.out (bel_step B10.out (bel_step B11.out (bel_step B12.out (bel_step B13.out (bel_step B14.out (bel_step B15.out (bel_step B16.out (bel_step B17.out (bel_step B18.out B19.out)))))))))))))))))) rfl rfl) ?_
  simp only [ptr, Act.put, List.setIfInBounds_toArray, List.set_cons_zero, List.set_cons_succ]
  refine wpList_run (by kernel_rfl) (.bool true) V20 (exec_eqTr tS 0 tS_length tS_lt rfl rfl rfl V20) ?_
  simp only [ptr, Act.put, List.setIfInBounds_toArray, List.set_cons_zero, List.set_cons_succ]
  refine wpList_run (by kernel_rfl) (.bool true) V20 rfl ?_
  simp only [ptr, Act.put, List.setIfInBounds_toArray, List.set_cons_zero, List.set_cons_succ]
  refine wpList_run (by kernel_rfl) (.bool true) V20 rfl ?_
  simp only [ptr, Act.put, List.setIfInBounds_toArray, List.set_cons_zero, List.set_cons_succ]
  refine wpList_run (by kernel_rfl) (.slice none 0 0) V20 rfl ?_
  simp only [ptr, Act.put, List.setIfInBounds_toArray, List.set_cons_zero, List.set_cons_succ]
  refine wpList_run (by kernel_rfl) (.int .i64 0) V20 (exec_lenNil rfl rfl V20) ?_
  simp only [ptr, Act.put, List.setIfInBounds_toArray, List.set_cons_zero, List.set_cons_succ]
  refine wpList_run (by kernel_rfl) (.bool true) V20 (exec_eqI 0 0 true rfl rfl rfl rfl) ?_
  simp only [ptr, Act.put, List.setIfInBounds_toArray, List.set_cons_zero, List.set_cons_succ]
  refine wpList_run (by kernel_rfl) (.bool true) V20 rfl ?_
  simp only [ptr, Act.put, List.setIfInBounds_toArray, List.set_cons_zero, List.set_cons_succ]
  refine wpList_run (by kernel_rfl) (.bool true) V20 rfl ?_
  simp only [ptr, Act.put, List.setIfInBounds_toArray, List.set_cons_zero, List.set_cons_succ]
  refine wpList_run (by kernel_rfl) (.agg (trC tS 0)) V20 (exec_loadT b6 tS 0 tS_length (T6.out.keep (bel_step B8.out (bel_step B9.out (bel_step B10.out (bel_step B11.out (bel_step B12.out (bel_step B13.out (bel_step B14.out (bel_step B15.out (bel_step B16.out (bel_step B17.out (bel_step B18.out B19.out)))))))))))) rfl rfl) ?_
  simp only [ptr, Act.put, List.setIfInBounds_toArray, List.set_cons_zero, List.set_cons_succ]
  refine wpList_run (by kernel_rfl) (.agg (trC tS 0)) V20 (exec_loadT b1 tS 0 tS_length (T1.out.keep (bel_step B2.out (bel_step B3.out (bel_step B4.out (bel_step B5.out (bel_step B6.out (bel_step B7.out (bel_step B8.out (bel_step B9.out (bel_step B10.out (bel_step B11.out (bel_step B12.out (bel_step B13.out (bel_step B14.out (bel_step B15.out (bel_step B16.out (bel_step B17.out (bel_step B18.out B19.out)))))))))))))))))) rfl rfl) ?_
  simp only [ptr, Act.put, List.setIfInBounds_toArray, List.set_cons_zero, List.set_cons_succ]
  refine wpList_run (by kernel_rfl) (.bool true) V20 (exec_eqTr tS 0 tS_length tS_lt rfl rfl rfl V20) ?_
  simp only [ptr, Act.put, List.setIfInBounds_toArray, List.set_cons_zero, List.set_cons_succ]
  refine wpList_run (by kernel_rfl) (.bool true) V20 rfl ?_
  simp only [ptr, Act.put, List.setIfInBounds_toArray, List.set_cons_zero, List.set_cons_succ]
  refine wpList_run (by kernel_rfl) (.bool true) V20 rfl ?_
  simp only [ptr, Act.put, List.setIfInBounds_toArray, List.set_cons_zero, List.set_cons_succ]
  refine wpList_run (by kernel_rfl) (.pointer (some ⟨b8, 32, none⟩)) V20 (exec_fT1 b8 rfl rfl V20) ?_
  simp only [ptr, Act.put, List.setIfInBounds_toArray, List.set_cons_zero, List.set_cons_succ]
  refine wpList_run (by kernel_rfl) (.int .u64 ((1 : Nat) : Int)) V20 (exec_loadU ⟨b8, 32, none⟩ _ ((T8.out.keep (bel_step B10.out (bel_step B11.out (bel_step B12.out (bel_step B13.out (bel_step B14.out (bel_step B15.out (bel_step B16.out (bel_step B17.out (bel_step B18.out B19.out)))))))))).count tS_length) rfl rfl) ?_
  simp only [ptr, Act.put, List.setIfInBounds_toArray, List.set_cons_zero, List.set_cons_succ]
  refine wpList_run (by kernel_rfl) (.bool true) V20 (exec_eqU _ _ rfl rfl rfl rfl) ?_
  simp only [ptr, Act.put, List.setIfInBounds_toArray, List.set_cons_zero, List.set_cons_succ]
  refine wpList_run (by kernel_rfl) (.bool true) V20 rfl ?_
  simp only [ptr, Act.put, List.setIfInBounds_toArray, List.set_cons_zero, List.set_cons_succ]
  refine wpList_run (by kernel_rfl) (.bool true) V20 rfl ?_
  simp only [ptr, Act.put, List.setIfInBounds_toArray, List.set_cons_zero, List.set_cons_succ]
  refine wpList_run (by kernel_rfl) (.pointer (some ⟨b10, 32, none⟩)) V20 (exec_fT1 b10 rfl rfl V20) ?_
  simp only [ptr, Act.put, List.setIfInBounds_toArray, List.set_cons_zero, List.set_cons_succ]
  refine wpList_run (by kernel_rfl) (.int .u64 ((2 : Nat) : Int)) V20 (exec_loadU ⟨b10, 32, none⟩ _ ((T10.out.keep (bel_step B12.out (bel_step B13.out (bel_step B14.out (bel_step B15.out (bel_step B16.out (bel_step B17.out (bel_step B18.out B19.out)))))))).count tS_length) rfl rfl) ?_
  simp only [ptr, Act.put, List.setIfInBounds_toArray, List.set_cons_zero, List.set_cons_succ]
  refine wpList_run (by kernel_rfl) (.bool true) V20 (exec_eqU _ _ rfl rfl rfl rfl) ?_
  simp only [ptr, Act.put, List.setIfInBounds_toArray, List.set_cons_zero, List.set_cons_succ]
  refine wpList_run (by kernel_rfl) (.bool true) V20 rfl ?_
  simp only [ptr, Act.put, List.setIfInBounds_toArray, List.set_cons_zero, List.set_cons_succ]
  refine wpList_run (by kernel_rfl) (.bool true) V20 rfl ?_
  simp only [ptr, Act.put, List.setIfInBounds_toArray, List.set_cons_zero, List.set_cons_succ]
  refine wpList_run (by kernel_rfl) (.pointer (some ⟨b8, 0, none⟩)) V20 (exec_fT0 b8 rfl rfl V20) ?_
  simp only [ptr, Act.put, List.setIfInBounds_toArray, List.set_cons_zero, List.set_cons_succ]
  refine wpList_run (by kernel_rfl) (.agg (celB tS).toArray) V20 (exec_loadTs b8 tS 1 tS_length (T8.out.keep (bel_step B10.out (bel_step B11.out (bel_step B12.out (bel_step B13.out (bel_step B14.out (bel_step B15.out (bel_step B16.out (bel_step B17.out (bel_step B18.out B19.out)))))))))) rfl rfl) ?_
  simp only [ptr, Act.put, List.setIfInBounds_toArray, List.set_cons_zero, List.set_cons_succ]
  refine wpList_run (by kernel_rfl) (.pointer (some ⟨b1, 0, none⟩)) V20 (exec_fT0 b1 rfl rfl V20) ?_
  simp only [ptr, Act.put, List.setIfInBounds_toArray, List.set_cons_zero, List.set_cons_succ]
  refine wpList_run (by kernel_rfl) (.agg (celB tS).toArray) V20 (exec_loadTs b1 tS 0 tS_length (T1.out.keep (bel_step B2.out (bel_step B3.out (bel_step B4.out (bel_step B5.out (bel_step B6.out (bel_step B7.out (bel_step B8.out (bel_step B9.out (bel_step B10.out (bel_step B11.out (bel_step B12.out (bel_step B13.out (bel_step B14.out (bel_step B15.out (bel_step B16.out (bel_step B17.out (bel_step B18.out B19.out)))))))))))))))))) rfl rfl) ?_
  simp only [ptr, Act.put, List.setIfInBounds_toArray, List.set_cons_zero, List.set_cons_succ]
  refine wpList_run (by kernel_rfl) (.bool true) V20 (exec_eqDg tS tS_length tS_lt rfl rfl rfl V20) ?_
  simp only [ptr, Act.put, List.setIfInBounds_toArray, List.set_cons_zero, List.set_cons_succ]
  refine wpList_run (by kernel_rfl) (.bool true) V20 rfl ?_
  simp only [ptr, Act.put, List.setIfInBounds_toArray, List.set_cons_zero, List.set_cons_succ]
  refine wpList_run (by kernel_rfl) (.bool true) V20 rfl ?_
  simp only [ptr, Act.put, List.setIfInBounds_toArray, List.set_cons_zero, List.set_cons_succ]
  refine wpList_run (by kernel_rfl) (.agg #[.int .u64 (x1 : Int), .int .u64 (y1 : Int)]) V20 (exec_loadEx b9 _ _ (heap_keep E9.out (bel_step B10.out (bel_step B11.out (bel_step B12.out (bel_step B13.out (bel_step B14.out (bel_step B15.out (bel_step B16.out (bel_step B17.out (bel_step B18.out B19.out)))))))))) rfl rfl) ?_
  simp only [ptr, Act.put, List.setIfInBounds_toArray, List.set_cons_zero, List.set_cons_succ]
  refine wpList_run (by kernel_rfl) (.agg #[.int .u64 (x2 : Int), .int .u64 (y2 : Int)]) V20 (exec_loadEx b11 _ _ (heap_keep E11.out (bel_step B12.out (bel_step B13.out (bel_step B14.out (bel_step B15.out (bel_step B16.out (bel_step B17.out (bel_step B18.out B19.out)))))))) rfl rfl) ?_
  simp only [ptr, Act.put, List.setIfInBounds_toArray, List.set_cons_zero, List.set_cons_succ]
  refine wpList_run (by kernel_rfl) (.bool true) V20 (exec_neEx _ _ _ _ hne rfl rfl rfl V20) ?_
  simp only [ptr, Act.put, List.setIfInBounds_toArray, List.set_cons_zero, List.set_cons_succ]
  refine wpList_run (by kernel_rfl) (.bool true) V20 rfl ?_
  simp only [ptr, Act.put, List.setIfInBounds_toArray, List.set_cons_zero, List.set_cons_succ]
  refine wpList_run (by kernel_rfl) (.bool true) V20 rfl ?_
  simp only [ptr, Act.put, List.setIfInBounds_toArray, List.set_cons_zero, List.set_cons_succ]
  refine wpList_run (by kernel_rfl) (.slice A12 (16 * 1) c12) V20 rfl ?_
  simp only [ptr, Act.put, List.setIfInBounds_toArray, List.set_cons_zero, List.set_cons_succ]
  refine wpList_mk (by kernel_rfl) (celB [1, 0, 0, 0, 0, 0, 0, 0, 0, 1, 0, 0, 0, 0, 0, 0]).toArray 5 16 16 (by unfold execOp; go_simp; rfl) ?_
  intro g119 V21 hge h1 hb
  have B20 := Lib.hid hb
  have M119 : Hid (Sb V21 (some ⟨g119, 0, none⟩) 16 16 [1, 0, 0, 0, 0, 0, 0, 0, 0, 1, 0, 0, 0, 0, 0, 0]) := Lib.hid (RowB.all (t := 5) h1 (by decide) rfl (Nat.le_refl _) (by decide))
  clear hge h1 hb
  simp only [ptr, Act.put, List.setIfInBounds_toArray, List.set_cons_zero, List.set_cons_succ]
  refine wpList_call (by kernel_rfl) 23 Tryd.func23 (by kernel_rfl) (by kernel_rfl) _ _ #[.slice A12 (16 * 1) c12, .slice (some ⟨g119, 0, none⟩) 16 16] rfl (by kernel_rfl) ?_
  refine (rsame_yes _ _ _ _ _ _ [1, 0, 0, 0, 0, 0, 0, 0, 0, 1, 0, 0, 0, 0, 0, 0] V21 (O12.out.keep (bel_step B14.out (bel_step B15.out (bel_step B16.out (bel_step B17.out (bel_step B18.out (bel_step B19.out B20.out))))))).sl' M119.out).mono ?_
  rintro e V22 ⟨rfl, hb⟩
  have B21 := Lib.hid hb
  clear hb 
  refine ⟨_, rfl, ?_⟩
  simp only [ptr, Act.put, List.setIfInBounds_toArray, List.set_cons_zero, List.set_cons_succ]
  refine wpList_run (by kernel_rfl) (.bool true) V22 rfl ?_
  simp only [ptr, Act.put, List.setIfInBounds_toArray, List.set_cons_zero, List.set_cons_succ]
  refine wpList_run (by kernel_rfl) (.bool true) V22 rfl ?_
  simp only [ptr, Act.put, List.setIfInBounds_toArray, List.set_cons_zero, List.set_cons_succ]
  refine wpList_run (by kernel_rfl) (.pointer (some ⟨b13, 32, none⟩)) V22 (exec_fT1 b13 rfl rfl V22) ?_
  simp only [ptr, Act.put, List.setIfInBounds_toArray, List.set_cons_zero, List.set_cons_succ]
  refine wpList_run (by kernel_rfl) (.int .u64 ((0 : Nat) : Int)) V22 (exec_loadU ⟨b13, 32, none⟩ _ ((T13.out.keep (bel_step B17.out (bel_step B18.out (bel_step B19.out (bel_step B20.out B21.out))))).count hDAl) rfl rfl) ?_
  simp only [ptr, Act.put, List.setIfInBounds_toArray, List.set_cons_zero, List.set_cons_succ]
  refine wpList_run (by kernel_rfl) (.bool true) V22 (exec_eqU _ _ rfl rfl rfl rfl) ?_
  simp only [ptr, Act.put, List.setIfInBounds_toArray, List.set_cons_zero, List.set_cons_succ]
  refine wpList_run (by kernel_rfl) (.bool true) V22 rfl ?_
  simp only [ptr, Act.put, List.setIfInBounds_toArray, List.set_cons_zero, List.set_cons_succ]
  refine wpList_run (by kernel_rfl) (.bool true) V22 rfl ?_
  simp only [ptr, Act.put, List.setIfInBounds_toArray, List.set_cons_zero, List.set_cons_succ]
  refine wpList_run (by kernel_rfl) (.pointer (some ⟨b13, 0, none⟩)) V22 (exec_fT0 b13 rfl rfl V22) ?_
  simp only [ptr, Act.put, List.setIfInBounds_toArray, List.set_cons_zero, List.set_cons_succ]
  refine wpList_run (by kernel_rfl) (.agg (celB DA).toArray) V22 (exec_loadTs b13 DA 0 hDAl (T13.out.keep (bel_step B17.out (bel_step B18.out (bel_step B19.out (bel_step B20.out B21.out))))) rfl rfl) ?_
  simp only [ptr, Act.put, List.setIfInBounds_toArray, List.set_cons_zero, List.set_cons_succ]
  refine wpList_run (by kernel_rfl) (.pointer (some ⟨b1, 0, none⟩)) V22 (exec_fT0 b1 rfl rfl V22) ?_
  simp only [ptr, Act.put, List.setIfInBounds_toArray, List.set_cons_zero, List.set_cons_succ]
  refine wpList_run (by kernel_rfl) (.agg (celB tS).toArray) V22 (exec_loadTs b1 tS 0 tS_length (T1.out.keep (bel_step B2.out (bel_step B3.out (bel_step B4.out (bel_step B5.out (bel_step B6.out (bel_step B7.out (bel_step B8.out (bel_step B9.out (bel_step B10.out (bel_step B11.out (bel_step B12.out (bel_step B13.out (bel_step B14.out (bel_step B15.out (bel_step B16.out (bel_step B17.out (bel_step B18.out (bel_step B19.out (bel_step B20.out B21.out)))))))))))))))))))) rfl rfl) ?_
  simp only [ptr, Act.put, List.setIfInBounds_toArray, List.set_cons_zero, List.set_cons_succ]
  refine wpList_run (by kernel_rfl) (.bool true) V22 (exec_neDg DA tS hDAl tS_length HDAb.out tS_lt HDAn.out rfl rfl rfl V22) ?_
  simp only [ptr, Act.put, List.setIfInBounds_toArray, List.set_cons_zero, List.set_cons_succ]
  refine wpList_run (by kernel_rfl) (.bool true) V22 rfl ?_
  simp only [ptr, Act.put, List.setIfInBounds_toArray, List.set_cons_zero, List.set_cons_succ]
  refine wpList_run (by kernel_rfl) (.bool true) V22 rfl ?_
  simp only [ptr, Act.put, List.setIfInBounds_toArray, List.set_cons_zero, List.set_cons_succ]
  refine wpList_call (by kernel_rfl) 24 Tryd.func24 (by kernel_rfl) (by kernel_rfl) _ _ #[.slice none 0 0] rfl (by kernel_rfl) ?_
  refine (bytes_any none 0 0 [] V22 (xb_nil _) (by decide)).mono ?_
  rintro e V23 ⟨v135, rfl, ho135, hb⟩
  have B22 := Lib.hid hb
  obtain ⟨A135, c135, rfl, _⟩ := ho135.sl
  have O135 := Lib.hid ho135
  clear hb ho135
  refine ⟨_, rfl, ?_⟩
  simp only [ptr, Act.put, List.setIfInBounds_toArray, List.set_cons_zero, List.set_cons_succ]
  refine wpList_run (by kernel_rfl) (.int .i64 ((16 * 0 : Nat) : Int)) V23 (exec_lenB A135 (16 * 0) c135 rfl rfl V23) ?_
  simp only [ptr, Act.put, List.setIfInBounds_toArray, List.set_cons_zero, List.set_cons_succ]
  refine wpList_run (by kernel_rfl) (.bool true) V23 (exec_eqI 0 0 true rfl rfl rfl rfl) ?_
  simp only [ptr, Act.put, List.setIfInBounds_toArray, List.set_cons_zero, List.set_cons_succ]
  refine wpList_run (by kernel_rfl) (.bool true) V23 rfl ?_
  simp only [ptr, Act.put, List.setIfInBounds_toArray, List.set_cons_zero, List.set_cons_succ]
  refine wpList_run (by kernel_rfl) (.bool true) V23 rfl ?_
  simp only [ptr, Act.put, List.setIfInBounds_toArray, List.set_cons_zero, List.set_cons_succ]
  refine wpList_nil ?_
  go_wp2_with fail
  go_ret
  exact ⟨rfl, (bel_step B0.out (bel_step B1.out (bel_step B2.out (bel_step B3.out (bel_step B4.out (bel_step B5.out (bel_step B6.out (bel_step B7.out (bel_step B8.out (bel_step B9.out (bel_step B10.out (bel_step B11.out (bel_step B12.out (bel_step B13.out (bel_step B14.out (bel_step B15.out (bel_step B16.out (bel_step B17.out (bel_step B18.out (bel_step B19.out (bel_step B20.out (bel_step B21.out B22.out))))))))))))))))))))))⟩
end Go.Proofs.YtcaoajeplinopaaDoor

namespace Go.Proofs.YtcaoajeplinopaaDoor
set_option linter.unusedVariables false
set_option linter.unusedSimpArgs false
set_option maxRecDepth 8000
open Go.ChangeShapes Go.WideShapes Go.ChangeAt Go.RowKit Go.Joins Go.Deep
theorem list_of8 {α : Type} (n : Nat) (P : Nat → α → Prop) (h : ∀ i, i < n → ∃ x, P i x) : ∃ l : List α, l.length = n ∧ ∀ i x, l[i]? = some x → P i x := by
  induction n with
  | zero => exact ⟨[], rfl, fun i x hx => by simp at hx⟩
  | succ n ih =>
    obtain ⟨l, hl, hp⟩ := ih fun i hi => h i (by omega)
    obtain ⟨x, hx⟩ := h n (Nat.lt_succ_self n)
    refine ⟨l ++ [x], by simp [hl], fun i y hy => ?_⟩
    by_cases hi : i < l.length
    · rw [List.getElem?_append_left hi] at hy
      exact hp i y hy
    · rw [List.getElem?_append_right (by omega)] at hy
      have e : i = n := by
        have := (List.getElem?_eq_some_iff.1 hy).1
        simp at this
        omega
      subst e
      rw [show i - l.length = 0 by omega] at hy
      injection hy with hy
      subst hy
      exact hx
section
variable {H : Type} {enc : TypeId × Value → H} {W : World} {base : Nat} {sp : Nat → Bool} {b1 : Nat} {hd : Bool} {v : Value} {d : DataW H} {p : List MemPlace}
end
end Go.Proofs.YtcaoajeplinopaaDoor

namespace Go.Proofs.YtcaoajeplinopaaDoor
set_option linter.unusedVariables false
set_option linter.unusedSimpArgs false
set_option maxRecDepth 8000
open Go.ChangeShapes Go.WideShapes Go.ChangeAt Go.RowKit Go.Joins Go.Deep
theorem add_add10 (a : Addr) (i j : Nat) : (a.add i).add j = a.add (i + j) := by
  unfold Addr.add
  by_cases hi : i = 0 <;> by_cases hj : j = 0 <;> simp [hi, hj, Nat.add_assoc]
theorem add_succ10 (a : Addr) (k : Nat) : a.add (k + 1) = ⟨(a.add k).block, (a.add k).off + 1, none⟩ := by
  rw [← add_add10]
  generalize a.add k = b
  unfold Addr.add
  simp
section
variable {H : Type} {enc : TypeId × Value → H} {W : World} {base : Nat} {sp : Nat → Bool} {b1 : Nat} {hd : Bool} {v : Value} {d : DataW H} {p : List MemPlace}
theorem cellsI10 : Tryd.prog.cellsOf 2 = 1 := by kernel_rfl
theorem trod_i64s {m : Nat} {c0 : Value} {y : DataW H × List MemPlace} (h : DataW.trod enc Tryd.prog W b1 sp hd m 24 [c0] = some y) : ∃ (A : Option Addr) (n c : Nat) (zs : List Int), c0 = .slice A n c ∧ Ib W A n c zs := by
  obtain ⟨d, p⟩ := y
  rcases open_slice Tryd.underlying24 h with ⟨hcs, _⟩ | ⟨a, len, cap, m', n', D, Pl, hcs, _, hl, hm, hmm, _, hi⟩
  · injection hcs with hcs
    subst hcs
    exact ⟨none, 0, 0, [], rfl, Ib.nil_ _⟩
  · injection hcs with hcs
    subst hcs
    unfold maxLen at hm
    have hC : ∀ i, i < len → ∃ z : Int, W.cell? (a.add i) = some (.int .i64 z) := fun i hin => by
      obtain ⟨cs', hc, ht⟩ := hi i (by rw [hmm]; split <;> omega)
      rw [cellsI10] at hc
      obtain ⟨_, hcl, hat⟩ := World.cells?_some hc
      match cs', hcl with
      | [c0], _ =>
        obtain ⟨z, e, _, _⟩ := DataW.trod_int Tryd.underlying2 ht
        simp at e
        subst e
        have h0 := hat 0 (by omega)
        simp only [Nat.mul_one] at h0
        exact ⟨z, h0⟩
    obtain ⟨zs, hpl, hpp⟩ := list_of8 len _ hC
    exact ⟨some a, len, cap, zs, rfl, hpl.symm, hl, by omega, (fun e => by cases e), fun i z hz => ⟨a, rfl, hpp i z hz⟩⟩
theorem cellsX10 : Tryd.prog.cellsOf 36 = 2 := by kernel_rfl
theorem cellsU10 : Tryd.prog.cellsOf 25 = 1 := by kernel_rfl
theorem trod_exts {m : Nat} {c0 : Value} {y : DataW H × List MemPlace} (h : DataW.trod enc Tryd.prog W b1 sp hd m 23 [c0] = some y) : ∃ (A : Option Addr) (n c : Nat) (xs : List (Nat × Nat)), c0 = .slice A n c ∧ XbT W A n c xs := by
  obtain ⟨d, p⟩ := y
  rcases open_slice Tryd.underlying23 h with ⟨hcs, _⟩ | ⟨a, len, cap, m', n', D, Pl, hcs, _, hl, hm, hmm, _, hi⟩
  · injection hcs with hcs
    subst hcs
    exact ⟨none, 0, 0, [], rfl, xb_nil _⟩
  · injection hcs with hcs
    subst hcs
    unfold maxLen at hm
    have hC : ∀ i, i < len → ∃ x : Nat × Nat, (x.1 < 18446744073709551616 ∧ x.2 < 18446744073709551616) ∧ W.cell? (a.add (i * 2)) = some (.int .u64 (x.1 : Int)) ∧ W.cell? (a.add (i * 2 + 1)) = some (.int .u64 (x.2 : Int)) := fun i hin => by
      obtain ⟨cs', hc, ht⟩ := hi i (by rw [hmm]; split <;> omega)
      rw [cellsX10] at hc
      obtain ⟨_, hcl, hat⟩ := World.cells?_some hc
      match cs', hcl with
      | [c0, c1], _ =>
        obtain ⟨ys, m2, _, _, _, hn, hel⟩ := DataW.trod_struct Tryd.underlying36 ht
        match ys, hn with
        | [y0, y1], _ =>
          have g0 : DataW.trod enc Tryd.prog W b1 sp hd m2 25 [c0] = some y0 := by simpa [cellsU10] using hel 0 _ rfl
          have g1 : DataW.trod enc Tryd.prog W b1 sp hd m2 25 [c1] = some y1 := by simpa [cellsU10] using hel 1 _ rfl
          obtain ⟨a0, e0, _, w0⟩ := DataW.trod_int Tryd.underlying25 g0
          obtain ⟨a1, e1, _, w1⟩ := DataW.trod_int Tryd.underlying25 g1
          simp at e0 e1
          subst e0 e1
          have hb0 := bounds_u64 w0
          have hb1 := bounds_u64 w1
          have k0 := hat 0 (by omega)
          have k1 := hat 1 (by omega)
          refine ⟨(a0.toNat, a1.toNat), ⟨by show a0.toNat < _; omega, by show a1.toNat < _; omega⟩, ?_, ?_⟩
          · rw [show ((a0.toNat : Nat) : Int) = a0 from Int.toNat_of_nonneg hb0.1]
            simpa [add_add10] using k0
          · rw [show ((a1.toNat : Nat) : Int) = a1 from Int.toNat_of_nonneg hb1.1]
            simpa [add_add10] using k1
    obtain ⟨xs, hpl, hpp⟩ := list_of8 len _ hC
    refine ⟨some a, len, cap, xs, rfl, hpl.symm, hl, by omega, (fun e => by cases e), fun x hx => ?_, fun i x hx => ?_⟩
    · obtain ⟨i, hi'⟩ := List.getElem?_of_mem hx
      exact (hpp i x hi').1
    · obtain ⟨_, k1, k2⟩ := hpp i x hx
      exact ⟨a, rfl, k1, by rw [add_succ10] at k2; exact k2⟩
theorem cellsIn10 : Tryd.prog.cellsOf 27 = 6 := by kernel_rfl
theorem cellsS10 : Tryd.prog.cellsOf 9 = 1 := by kernel_rfl
theorem cellsB10 : Tryd.prog.cellsOf 22 = 1 := by kernel_rfl
theorem cellsXs10 : Tryd.prog.cellsOf 23 = 1 := by kernel_rfl
theorem cellsIs10 : Tryd.prog.cellsOf 24 = 1 := by kernel_rfl
theorem array6T {α : Type} {cs : Array α} (h : cs.size = 6) : ∃ c0 c1 c2 c3 c4 c5, cs = #[c0, c1, c2, c3, c4, c5] := by
  obtain ⟨l⟩ := cs
  match l, h with
  | [c0, c1, c2, c3, c4, c5], _ => exact ⟨c0, c1, c2, c3, c4, c5, rfl⟩
theorem open_input10 (hv : Value.okWide Tryd.prog W .any base 27 v) (h : DataW.Trod enc Tryd.prog W b1 sp hd 27 v d p) :
    ∃ (ls : ByteArray) (A1 : Option Addr) (n1 c1 : Nat) (bs : List Nat) (A2 : Option Addr) (n2 c2 : Nat) (xs : List (Nat × Nat)) (A3 : Option Addr) (n3 c3 : Nat) (is : List Int) (A4 : Option Addr) (n4 c4 : Nat) (st : List Nat) (cnt : Nat),
      v = .agg #[.string ls, .slice A1 n1 c1, .slice A2 n2 c2, .slice A3 n3 c3, .slice A4 n4 c4, .int .u64 (cnt : Int)] ∧ Sb W A1 n1 c1 bs ∧ XbT W A2 n2 c2 xs ∧ Ib W A3 n3 c3 is ∧ Sb W A4 n4 c4 st ∧ cnt < 18446744073709551616 := by
  obtain ⟨cs, rfl, hsz, _⟩ : ∃ cs, v = .agg cs ∧ cs.size = Tryd.prog.cellsOf 27 ∧ Row.okWide Tryd.prog W .any base 27 cs := by
    simpa [Value.okWide, Tryd.underlying27] using hv
  rw [cellsIn10] at hsz
  obtain ⟨k0, k1, k2, k3, k4, k5, rfl⟩ := array6T hsz
  obtain ⟨fuel, hf⟩ := h
  obtain ⟨ys, m', _, _, _, hn, hel⟩ := DataW.trod_struct Tryd.underlying27 (show DataW.trod enc Tryd.prog W b1 sp hd fuel 27 [k0, k1, k2, k3, k4, k5] = some (d, p) by simpa [Value.cells] using hf)
  match ys, hn with
  | [y0, y1, y2, y3, y4, y5], _ =>
    have g0 : DataW.trod enc Tryd.prog W b1 sp hd m' 9 [k0] = some y0 := by simpa [cellsS10, cellsB10, cellsXs10, cellsIs10, cellsU10] using hel 0 _ rfl
    have g1 : DataW.trod enc Tryd.prog W b1 sp hd m' 22 [k1] = some y1 := by simpa [cellsS10, cellsB10, cellsXs10, cellsIs10, cellsU10] using hel 1 _ rfl
    have g2 : DataW.trod enc Tryd.prog W b1 sp hd m' 23 [k2] = some y2 := by simpa [cellsS10, cellsB10, cellsXs10, cellsIs10, cellsU10] using hel 2 _ rfl
    have g3 : DataW.trod enc Tryd.prog W b1 sp hd m' 24 [k3] = some y3 := by simpa [cellsS10, cellsB10, cellsXs10, cellsIs10, cellsU10] using hel 3 _ rfl
    have g4 : DataW.trod enc Tryd.prog W b1 sp hd m' 22 [k4] = some y4 := by simpa [cellsS10, cellsB10, cellsXs10, cellsIs10, cellsU10] using hel 4 _ rfl
    have g5 : DataW.trod enc Tryd.prog W b1 sp hd m' 25 [k5] = some y5 := by simpa [cellsS10, cellsB10, cellsXs10, cellsIs10, cellsU10] using hel 5 _ rfl
    obtain ⟨ls, e0, _⟩ := DataW.trod_string Tryd.underlying9 g0
    simp at e0
    subst e0
    obtain ⟨A1, n1, c1, bs, e1, s1⟩ := bytes_of_trod g1
    injection e1 with e1
    subst e1
    obtain ⟨A2, n2, c2, xs, rfl, s2⟩ := trod_exts g2
    obtain ⟨A3, n3, c3, is, rfl, s3⟩ := trod_i64s g3
    obtain ⟨A4, n4, c4, st, e4, s4⟩ := bytes_of_trod g4
    injection e4 with e4
    subst e4
    obtain ⟨a5, e5, _, w5⟩ := DataW.trod_int Tryd.underlying25 g5
    simp at e5
    subst e5
    have hb := bounds_u64 w5
    exact ⟨ls, A1, n1, c1, bs, A2, n2, c2, xs, A3, n3, c3, is, A4, n4, c4, st, a5.toNat, by rw [Int.toNat_of_nonneg hb.1], s1, s2, s3, s4, by omega⟩
end
end Go.Proofs.YtcaoajeplinopaaDoor

namespace Go.Proofs.YtcaoajeplinopaaDoor
set_option linter.unusedVariables false
set_option linter.unusedSimpArgs false
set_option maxRecDepth 8000
open Go.ChangeShapes Go.WideShapes Go.ChangeAt Go.RowKit Go.Joins Go.Deep
section
variable {H : Type} {enc : TypeId × Value → H} {W : World} {base : Nat} {sp : Nat → Bool} {b1 : Nat} {hd : Bool} {v : Value} {d : DataW H} {p : List MemPlace}
theorem cellsDr10 : Tryd.prog.cellsOf 47 = 2 := by kernel_rfl
theorem cellsN10 : Tryd.prog.cellsOf 3 = 1 := by kernel_rfl
theorem open_draw10 (hv : Value.okWide Tryd.prog W .any base 47 v) (h : DataW.Trod enc Tryd.prog W b1 sp hd 47 v d p) : ∃ L C : Int, v = .agg #[.int .i64 L, .int .i64 C] := by
  obtain ⟨cs, rfl, hsz, _⟩ : ∃ cs, v = .agg cs ∧ cs.size = Tryd.prog.cellsOf 47 ∧ Row.okWide Tryd.prog W .any base 47 cs := by
    simpa [Value.okWide, Tryd.underlying47] using hv
  rw [cellsDr10] at hsz
  obtain ⟨c0, c1, rfl⟩ := array2 hsz
  obtain ⟨fuel, hf⟩ := h
  obtain ⟨ys, m', _, _, _, hn, hel⟩ := DataW.trod_struct Tryd.underlying47 (show DataW.trod enc Tryd.prog W b1 sp hd fuel 47 [c0, c1] = some (d, p) by simpa [Value.cells] using hf)
  match ys, hn with
  | [y0, y1], _ =>
    have g0 : DataW.trod enc Tryd.prog W b1 sp hd m' 3 [c0] = some y0 := by simpa [cellsN10] using hel 0 _ rfl
    have g1 : DataW.trod enc Tryd.prog W b1 sp hd m' 3 [c1] = some y1 := by simpa [cellsN10] using hel 1 _ rfl
    obtain ⟨a0, e0, _, _⟩ := DataW.trod_int Tryd.underlying3 g0
    obtain ⟨a1, e1, _, _⟩ := DataW.trod_int Tryd.underlying3 g1
    simp at e0 e1
    subst e0 e1
    exact ⟨a0, a1, rfl⟩
theorem cellsBy10 : Tryd.prog.cellsOf 5 = 1 := by kernel_rfl
theorem cellsB210 : Tryd.prog.cellsOf 62 = 2 := by kernel_rfl
theorem open_two10 (hv : Value.okWide Tryd.prog W .any base 62 v) (h : DataW.Trod enc Tryd.prog W b1 sp hd 62 v d p) : ∃ x0 x1 : Nat, v = .agg #[.int .u8 (x0 : Int), .int .u8 (x1 : Int)] ∧ x0 < 256 ∧ x1 < 256 := by
  obtain ⟨cs, rfl, hsz, _⟩ : ∃ cs, v = .agg cs ∧ cs.size = Tryd.prog.cellsOf 62 ∧ Row.okWide Tryd.prog W .any base 62 cs := by
    simpa [Value.okWide, Tryd.underlying62] using hv
  rw [cellsB210] at hsz
  obtain ⟨c0, c1, rfl⟩ := array2 hsz
  obtain ⟨fuel, hf⟩ := h
  obtain ⟨xs, m, _, _, _, hn, hel⟩ := DataW.trod_array Tryd.underlying62 hf
  rw [cellsBy10] at hel
  match xs, hn with
  | [y0, y1], _ =>
    have g0 : DataW.trod enc Tryd.prog W b1 sp hd m 5 [c0] = some y0 := by simpa [Value.cells] using hel 0 (by omega)
    have g1 : DataW.trod enc Tryd.prog W b1 sp hd m 5 [c1] = some y1 := by simpa [Value.cells] using hel 1 (by omega)
    obtain ⟨a0, e0, _, w0⟩ := DataW.trod_int Tryd.underlying5 g0
    obtain ⟨a1, e1, _, w1⟩ := DataW.trod_int Tryd.underlying5 g1
    simp at e0 e1
    subst e0 e1
    have b0 := bounds_u8 w0
    have b1 := bounds_u8 w1
    exact ⟨a0.toNat, a1.toNat, by rw [Int.toNat_of_nonneg b0.1, Int.toNat_of_nonneg b1.1], by omega, by omega⟩
theorem open_exts10 (hv : Value.okWide Tryd.prog W .any base 23 v) (h : DataW.Trod enc Tryd.prog W b1 sp hd 23 v d p) : ∃ (A : Option Addr) (n c : Nat) (xs : List (Nat × Nat)), v = .slice A n c ∧ XbT W A n c xs := by
  obtain ⟨A, n, c, rfl⟩ : ∃ A n c, v = .slice A n c := okWide_slice Tryd.underlying23 hv
  obtain ⟨fuel, hf⟩ := h
  exact (trod_exts (y := (d, p)) (show DataW.trod enc Tryd.prog W b1 sp hd fuel 23 [.slice A n c] = some (d, p) from by simpa [Value.cells] using hf))
end
end Go.Proofs.YtcaoajeplinopaaDoor

