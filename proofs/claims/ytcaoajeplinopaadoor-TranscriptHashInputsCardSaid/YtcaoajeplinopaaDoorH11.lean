/- Several texts in one: Trn, Tro, Trp. -/
import Derived.Test.YtcaoajeplinopaaDoorH10
import Derived.Sort.MapsRangeIn
namespace Go.Proofs.YtcaoajeplinopaaDoor
set_option linter.unusedVariables false
set_option linter.unusedSimpArgs false
set_option maxRecDepth 8000
open Go.RowKit
open Go.Shelf
attribute [local simp] z32_ne z32_run
attribute [-simp] Tryd.zeroValue30 Tryd.isAgg30 Tryd.sizeOf30
attribute [-simp] Tryd.zeroValue32 Tryd.isAgg32 Tryd.sizeOf32
attribute [local simp] z33_ne z33_run
attribute [local irreducible] wpList
/-- the count after the output of candidate i -/
def cntF (c i : Nat) : Nat := (c + i / 4 + 1) % 18446744073709551616
/-- candidate i -/
def cdF (s : List Nat) (lb : ByteArray) (c L i : Nat) : Nat := leV (outT s 3 lb ((c + i / 4) % 18446744073709551616)) (8 * (i % 4)) % L
theorem cntF_at {c k i : Nat} (h : i < 4) : cntF c (4 * k + i) = (c + k + 1) % 18446744073709551616 := by
  unfold cntF
  rw [show (4 * k + i) / 4 = k by omega]
theorem cdF_at {s : List Nat} {lb : ByteArray} {c L k i : Nat} (h : i < 4) : cdF s lb c L (4 * k + i) = leV (outT s 3 lb ((c + k) % 18446744073709551616)) (8 * i) % L := by
  unfold cdF
  rw [show (4 * k + i) / 4 = k by omega, show (4 * k + i) % 4 = i by omega]
section
variable {P : Program}
theorem hOpI_val {o : Oper} {a : Act} {w : World} {K : Value → World → Prop} (v : Value) (h : (execOp a.eval o).run P w = .ok (.value v) w) (hk : K v w) : hOpI P o K a w := by
  unfold hOpI
  rw [h]
  exact hk
theorem hOpI_yield {R : Ending → World → Prop} {o : Oper} {a : Act} {w : World} {K : Value → World → Prop} (x : Tmp) (l : Nat) (xs : Array Operand) (ts : Array TypeId) (args : Array Value) (ho : o.op = .call { callee := .value (.tmp x), args := xs, argTypes := ts })
    (hx : a.eval (.tmp x) = .func (.yield l) #[] #[]) (hv : xs.map a.eval = args) (h : YieldAt Fence.wide 1 P l args w R) (hR : ∀ e w', R e w' → ∃ v, e = .returned v ∧ K v w') : hOpI P o K a w := by
  obtain ⟨fn, tmps, assign, body, hrun, hr⟩ := h
  have e : (execOp a.eval o).run P w = .ok (.round l fn tmps assign body) w := by
    have hx' : a.tmps[x]?.getD undef = .func (.yield l) #[] #[] := by simpa [Act.eval] using hx
    subst hv
    unfold execOp
    simp only [ho]
    simp [resolve, Deferred.ofValue, invoke, go_sem, hx', hrun]
  unfold hOpI
  rw [e]
  exact hr.mono hR
end
theorem oblM_cons {P : Program} {l0 r : List Oper} {I : (Nat → Bool) → (Nat → Value) → World → Prop} {o : Oper} {i : Nat} {A : (Nat → Value) → Act} (h : ∀ m vs W, ClosT l0 m → m i = false → (∀ k, depB o k = true → m k = true) → I m vs W → hOpI P o (fun v W' => I (setT m i) (setV vs i v) W') (A vs) W) (h2 : oblM P l0 I r (i + 1) (fun vs => (A vs).put o.dst (vs i))) : oblM P l0 I (o :: r) i A := ⟨h, h2⟩
/-- nine looks, a yield, its denial -/
def YI (F : Nat → Value → Prop) (w0 : World) (T : Bool → World → Prop) (m : Nat → Bool) (vs : Nat → Value) (W : World) : Prop :=
  (∀ i, i < 9 → m i = true → F i (vs i)) ∧ (m 9 = false → m 10 = false ∧ W = w0) ∧ (m 9 = true → ∃ t, vs 9 = .bool t ∧ (m 10 = true → vs 10 = .bool (!t)) ∧ T t W)
section
variable {F : Nat → Value → Prop} {w0 W : World} {T : Bool → World → Prop} {m m' : Nat → Bool} {vs : Nat → Value}
theorem YI.step (h : YI F w0 T m vs W) (h9 : m 9 = false) {i : Nat} (hi : i < 9) {v : Value} (hv : F i v) : YI F w0 T (setT m i) (setV vs i v) W := by
  obtain ⟨h1, h2, h3⟩ := h
  refine ⟨fun j hj hm => ?_, fun _ => ?_, fun hm => ?_⟩
  · unfold setT at hm
    unfold setV
    by_cases e : j = i
    · subst e; rw [if_pos rfl]; exact hv
    · rw [if_neg e] at hm ⊢; exact h1 j hj hm
  · unfold setT; rw [if_neg (by omega)]; exact h2 h9
  · unfold setT at hm; rw [if_neg (by omega), h9] at hm; cases hm
theorem YI.yield (h : YI F w0 T m vs W) (h9 : m 9 = false) {t : Bool} {W' : World} (ht : T t W') : YI F w0 T (setT m 9) (setV vs 9 (.bool t)) W' := by
  obtain ⟨h1, h2, h3⟩ := h
  have h10 := (h2 h9).1
  refine ⟨fun j hj hm => ?_, fun hm => ?_, fun _ => ⟨t, ?_, fun hm => ?_, ht⟩⟩
  · unfold setT at hm
    unfold setV
    rw [if_neg (by omega)] at hm ⊢
    exact h1 j hj hm
  · unfold setT at hm; rw [if_pos rfl] at hm; cases hm
  · unfold setV; rw [if_pos rfl]
  · unfold setT at hm; rw [if_neg (by omega), h10] at hm; cases hm
theorem YI.last (h : YI F w0 T m vs W) (h9 : m 9 = true) {v : Value} (hv : ∀ t, vs 9 = .bool t → v = .bool (!t)) : YI F w0 T (setT m 10) (setV vs 10 v) W := by
  obtain ⟨h1, h2, h3⟩ := h
  obtain ⟨t, e, _, ht⟩ := h3 h9
  refine ⟨fun j hj hm => ?_, fun hm => ?_, fun _ => ⟨t, ?_, fun _ => ?_, ht⟩⟩
  · unfold setT at hm
    unfold setV
    rw [if_neg (by omega)] at hm ⊢
    exact h1 j hj hm
  · unfold setT at hm; rw [if_neg (by omega), h9] at hm; cases hm
  · unfold setV; rw [if_neg (by omega)]; exact e
  · unfold setV; rw [if_pos rfl]; exact hv t e
theorem YI.ext (he : ∀ i, i < 11 → m i = m' i) (h : YI F w0 T m vs W) : YI F w0 T m' vs W := by
  obtain ⟨h1, h2, h3⟩ := h
  refine ⟨fun i hi hm => h1 i hi (by rw [he i (by omega)]; exact hm), fun hm => ?_, fun hm => ?_⟩
  · rw [← he 9 (by omega)] at hm
    obtain ⟨a, b⟩ := h2 hm
    rw [he 10 (by omega)] at a
    exact ⟨a, b⟩
  · rw [← he 9 (by omega)] at hm
    obtain ⟨t, a, b, c⟩ := h3 hm
    exact ⟨t, a, fun h => b (by rw [he 10 (by omega)]; exact h), c⟩
end
theorem not9 {l : List Oper} {m : Nat → Bool} (h : ClosT l m) {o9 o8 o7 o6 o4 o3 : Oper} (e9 : l[9]? = some o9) (e8 : l[8]? = some o8) (e7 : l[7]? = some o7) (e6 : l[6]? = some o6) (e4 : l[4]? = some o4) (e3 : l[3]? = some o3)
    (d : (depB o9 0 && depB o9 1 && depB o9 8 && depB o8 7 && depB o7 4 && depB o7 6 && depB o6 5 && depB o4 3 && depB o3 2) = true) {i : Nat} (hi : i < 9) (hm : m i = false) : m 9 = false := by
  simp only [Bool.and_eq_true] at d
  obtain ⟨⟨⟨⟨⟨⟨⟨⟨d0, d1⟩, d8⟩, d7⟩, d4⟩, d6⟩, d5⟩, d3⟩, d2⟩ := d
  cases h9 : m 9 with
  | false => rfl
  | true =>
    have m8 := h 9 o9 e9 h9 8 d8
    have m7 := h 8 o8 e8 m8 7 d7
    have m4 := h 7 o7 e7 m7 4 d4
    have m6 := h 7 o7 e7 m7 6 d6
    have m3 := h 4 o4 e4 m4 3 d3
    have m5 := h 6 o6 e6 m6 5 d5
    have m2 := h 3 o3 e3 m3 2 d2
    have m0 := h 9 o9 e9 h9 0 d0
    have m1 := h 9 o9 e9 h9 1 d1
    have : i = 0 ∨ i = 1 ∨ i = 2 ∨ i = 3 ∨ i = 4 ∨ i = 5 ∨ i = 6 ∨ i = 7 ∨ i = 8 := by omega
    rcases this with rfl | rfl | rfl | rfl | rfl | rfl | rfl | rfl | rfl <;> (first | (rw [m0] at hm; cases hm) | (rw [m1] at hm; cases hm) | (rw [m2] at hm; cases hm) | (rw [m3] at hm; cases hm) | (rw [m4] at hm; cases hm) | (rw [m5] at hm; cases hm) | (rw [m6] at hm; cases hm) | (rw [m7] at hm; cases hm) | (rw [m8] at hm; cases hm))
section
variable {ev : Operand → Value} {o : Oper}
theorem exec_loadStr {x : Operand} {w : World} (a : Addr) (s : ByteArray) (hc : w.cell? a = some (.string s)) (ho : o.op = .load 9 x) (hx : ev x = .pointer (some a)) :
    (execOp ev o).run Tryd.prog w = .ok (.value (.string s)) w := by
  unfold execOp
  simp only [ho, hx]
  go_simp
theorem exec_loadInt {x : Operand} {w : World} (a : Addr) (z : Int) (hc : w.cell? a = some (.int .i64 z)) (ho : o.op = .load 3 x) (hx : ev x = .pointer (some a)) :
    (execOp ev o).run Tryd.prog w = .ok (.value (.int .i64 z)) w := by
  unfold execOp
  simp only [ho, hx]
  go_simp
theorem exec_sliceFrom {x y : Operand} (g k : Nat) (hk : k = 0 ∨ k = 8 ∨ k = 16 ∨ k = 24) (w : World) (ho : o.op = .slice 30 x (some y) none none) (hx : ev x = .pointer (some ⟨g, 0, none⟩)) (hy : ev y = .int .i64 (k : Int)) : (execOp ev o).run Tryd.prog w = .ok (.value (.slice (some ⟨g, k, none⟩) (32 - k) (32 - k))) w := by
  rcases hk with rfl | rfl | rfl | rfl <;>
  · unfold execOp
    simp only [ho, hx, hy, Option.map_some]
    go_simp
theorem exec_remU {x y : Operand} {t : TypeId} (a b : Nat) (hb : 1 ≤ b) (ha : a < 18446744073709551616) (ho : o.op = .binOp .rem 25 x y t) (hx : ev x = .int .u64 (a : Int)) (hy : ev y = .int .u64 (b : Int)) (w : World) :
    (execOp ev o).run Tryd.prog w = .ok (.value (.int .u64 ((a % b : Nat) : Int))) w := by
  have h1 : (b : Int) ≠ 0 := by omega
  have h2 : (a : Int).tmod (b : Int) = ((a % b : Nat) : Int) := by rw [Int.tmod_eq_emod_of_nonneg (by omega)]; simp
  have h4 : a % b ≤ a := Nat.mod_le _ _
  have h3 : IntKind.u64.wrap ((a % b : Nat) : Int) = ((a % b : Nat) : Int) := by rw [IntKind.wrap_u64]; omega
  unfold execOp
  simp only [ho, hx, hy]
  go_simp
  omega
theorem exec_cvtI {x : Operand} (n : Nat) (hn : n ≤ 9223372036854775807) (w : World) (ho : o.op = .convert 25 3 x) (hx : ev x = .int .u64 (n : Int)) : (execOp ev o).run Tryd.prog w = .ok (.value (.int .i64 (n : Int))) w := by
  have h : IntKind.i64.wrap (n : Int) = (n : Int) := by rw [IntKind.wrap_i64]; omega
  unfold execOp
  simp only [ho, hx]
  go_simp
theorem exec_not {x : Operand} {t : TypeId} (b : Bool) (ho : o.op = .unOp .not t x) (hx : ev x = .bool b) (w : World) : (execOp ev o).run Tryd.prog w = .ok (.value (.bool (!b))) w := by
  unfold execOp
  simp only [ho, hx]
  go_simp
end
set_option maxRecDepth 100000 in
set_option maxHeartbeats 4000000 in
theorem cand_iter (s : List Nat) (c : Nat) (lb : ByteArray) (L b b1 b2 : Nat) (hl : s.length = 32) (hsb : ∀ x ∈ s, x < 256) (hc : c < 18446744073709551616) (hlb : lb.size ≤ 200) (hL1 : 1 ≤ L) (hL : L ≤ 65536)
    (l : Nat) (W : World) (J Jx : Nat → World → Prop) (hJ : ∀ i A B, J i A → Below W.heap.size A B → J i B)
    (hJB : ∀ i B, J i B → W.heap.size ≤ B.heap.size ∧ Gl B ∧ B.cell? ⟨b1, 0, none⟩ = some (.string lb) ∧ B.cell? ⟨b2, 0, none⟩ = some (.int .i64 (L : Int))) (h1 : RowT W b s c)
    (hY : ∀ i B, i < 16384 → J i B → YieldAt Fence.wide 1 Tryd.prog l #[.agg (trC s (cntF c i)), .int .i64 ((cdF s lb c L i : Nat) : Int)] B fun e B' => (e = .returned (.bool true) ∧ J (i + 1) B' ∧ KeepA W.heap.size B B') ∨ (e = .returned (.bool false) ∧ Jx i B'))
    (h0 : J 0 W) :
    CallsIn Fence.wide 2 Tryd.prog 61 (#[.func (.yield l) #[] #[]] ++ #[.pointer (some ⟨b, 0, none⟩), .pointer (some ⟨b1, 0, none⟩), .pointer (some ⟨b2, 0, none⟩)]) W fun e B => (∃ v, e = .returned v) ∧ (J 16384 B ∨ ∃ i, i < 16384 ∧ Jx i B) := by
  have HJ := Lib.hid hJ
  have HJB := Lib.hid hJB
  have HY := Lib.hid hY
  have HSB := Lib.hid hsb
  clear hJ hJB hY hsb
  refine callsIn_of_wp Tryd.func61 rfl trivial ?_ rfl
  simp only [Tryd.ntmps61, List.size_toArray, List.length_cons, List.length_nil, Nat.reduceAdd, Nat.reduceSub, Array.replicate_succ, Array.replicate_zero, List.push_toArray, List.append_toArray, List.nil_append, List.cons_append]
  refine wpIn_wide.2 ?_
  go_upto_region 0 with fail
  refine wp_region_lit ?_
  refine wpList_run (by kernel_rfl) (.agg (trC s c)) W (exec_loadT b s c hl h1 rfl rfl) ?_
  simp only [Act.put, List.setIfInBounds_toArray, List.set_cons_zero, List.set_cons_succ]
  refine wpList_run (by kernel_rfl) (ptr W.heap.size) (W.alloc (.cells z33 32)) (exec_allocT W rfl) ?_
  simp only [ptr, Act.put, List.setIfInBounds_toArray, List.set_cons_zero, List.set_cons_succ]
  have HR0 : Hid (RowT (W.alloc (.cells z33 32)) W.heap.size (List.replicate 32 0) 0) := Lib.hid (heap_new W _)
  refine wpList_run0 (by kernel_rfl) _ (exec_storeT W.heap.size (List.replicate 32 0) 0 s c List.length_replicate hl HR0.out rfl rfl rfl) ?_
  simp only [Act.put, List.setIfInBounds_toArray, List.set_cons_zero, List.set_cons_succ]
  refine wpList_nil ?_
  have HR1 := Lib.hid (HR0.out.row s c)
  have HJ1 := Lib.hid (HJ.out 0 W _ h0 (bel_setRow ((Below.refl _ _).alloc (Nat.le_refl _) (.cells z33 32)) (Nat.le_refl _) (trC s c)))
  clear HR0 h0 h1
  generalize (W.alloc (.cells z33 32)).setRow W.heap.size (trC s c) = W1 at *
  go_wp2_with fail
  go_loopw [9] (fun s9 wr => ∃ k : Nat, k ≤ 4096 ∧ s9 = .int .i64 k ∧ J (4 * k) wr ∧ RowT wr W.heap.size s ((c + k) % 18446744073709551616)) (fun s9 _ => 4096 - (intOf s9).toNat)
  case atStart => exact ⟨0, by omega, rfl, HJ1.out, by rw [Nat.add_zero, Nat.mod_eq_of_lt hc]; exact HR1.out⟩
  case round =>
    clear HJ1 HR1
    obtain ⟨k, hk, rfl, hj, hr⟩ := hrel
    obtain ⟨hsz, hg, hcl, hci⟩ := HJB.out _ _ hj
    have HJk := Lib.hid hj
    have HRk := Lib.hid hr
    clear hj hr
    by_cases hlt : k < 4096
    · have hk1 : (k : Int) < 4096 := by omega
      obtain ⟨c1, hc1⟩ : ∃ x, (c + k) % 18446744073709551616 = x := ⟨_, rfl⟩
      obtain ⟨c2, hc2⟩ : ∃ x, (c + k + 1) % 18446744073709551616 = x := ⟨_, rfl⟩
      obtain ⟨D, hD⟩ : ∃ x, outT s 3 lb c1 = x := ⟨_, rfl⟩
      rw [hc1] at HRk
      have hDl : D.length = 32 := by rw [← hD]; exact outT_length _ _ _ _
      have HDB := Lib.hid (show ∀ z ∈ D, z < 256 by rw [← hD]; exact outT_lt _ _ _ _)
      have HD := Lib.hid hD
      have HC1 := Lib.hid hc1
      have HC2 := Lib.hid hc2
      have hc1lt : c1 < 18446744073709551616 := by omega
      have hc12 : (c1 + 1) % 18446744073709551616 = c2 := by omega
      clear hD hc1 hc2
      go_upto_region 3 with fail
      refine wp_region_lit ?_
      refine wpList_run (by kernel_rfl) (ptr wr.heap.size) (wr.alloc (.cells z32 30)) (run_allocD _ _ wr rfl) ?_
      simp only [ptr, Act.put, List.setIfInBounds_toArray, List.set_cons_zero, List.set_cons_succ]
      refine wpList_nil ?_
      have F6 : Hid (RowB (wr.alloc (.cells z32 30)) 30 wr.heap.size (List.replicate 32 0)) := Lib.hid (heap_new wr _)
      have hb1 : Below wr.heap.size wr (wr.alloc (.cells z32 30)) := (Below.refl _ _).alloc (Nat.le_refl _) _
      have HJa := Lib.hid (HJ.out _ _ _ HJk.out (hb1.mono hsz))
      have HRa := Lib.hid (HRk.out.keep hb1)
      have hne : W.heap.size ≠ wr.heap.size := Nat.ne_of_lt (Array.getElem?_eq_some_iff.1 HRk.out).1
      clear HJk HRk hb1 hg hcl hci
      generalize wr.alloc (.cells z32 30) = V1 at *
      generalize wr.heap.size = g6 at *
      obtain ⟨hsz1, hg, hcl, hci⟩ := HJB.out _ _ HJa.out
      go_upto_region 4 with fail
      refine wp_region_lit ?_
      refine wpList_run (by kernel_rfl) (.agg (trC s c1)) V1 (exec_loadT W.heap.size s c1 hl HRa.out rfl rfl) ?_
      simp only [Act.put, List.setIfInBounds_toArray, List.set_cons_zero, List.set_cons_succ]
      refine wpList_run (by kernel_rfl) (.string lb) V1 (exec_loadStr _ lb hcl rfl rfl) ?_
      simp only [Act.put, List.setIfInBounds_toArray, List.set_cons_zero, List.set_cons_succ]
      refine wpList_call (by kernel_rfl) 39 Tryd.func39 (by kernel_rfl) (by kernel_rfl) _ _ #[.agg (trC s c1), .int .u8 ((3 : Nat) : Int), .string lb] rfl (by kernel_rfl) ?_
      refine (output_any s 3 lb c1 V1 hl HSB.out hc1lt (by omega) hlb hg D HD.out c2 hc12).mono ?_
      rintro e V2 ⟨rfl, hb⟩
      have F6b := Lib.hid (F6.out.keep hb)
      have HRb := Lib.hid (HRa.out.keep hb)
      have HJb := Lib.hid (HJ.out _ _ _ HJa.out (hb.mono hsz1))
      clear hb F6 HRa HJa hg hcl hci hsz1
      refine ⟨_, rfl, ?_⟩
      simp only [Act.put, List.setIfInBounds_toArray, List.set_cons_zero, List.set_cons_succ]
      refine wpList_run (by kernel_rfl) (.tuple #[.agg (trC s c2), .agg (celB D).toArray]) V2 rfl ?_
      simp only [Act.put, List.setIfInBounds_toArray, List.set_cons_zero, List.set_cons_succ]
      refine wpList_run (by kernel_rfl) (.agg (trC s c2)) V2 rfl ?_
      simp only [Act.put, List.setIfInBounds_toArray, List.set_cons_zero, List.set_cons_succ]
      refine wpList_run (by kernel_rfl) (.agg (celB D).toArray) V2 rfl ?_
      simp only [Act.put, List.setIfInBounds_toArray, List.set_cons_zero, List.set_cons_succ]
      refine wpList_run0 (by kernel_rfl) _ (exec_storeT W.heap.size s c1 s c2 hl hl HRb.out rfl rfl rfl) ?_
      simp only [Act.put, List.setIfInBounds_toArray, List.set_cons_zero, List.set_cons_succ]
      have F6c := Lib.hid (F6b.out.farRow (Ne.symm hne) (trC s c2))
      refine wpList_run0 (by kernel_rfl) _ (exec_storeD (old := List.replicate 32 0) hDl List.length_replicate F6c.out rfl rfl rfl) ?_
      simp only [Act.put, List.setIfInBounds_toArray, List.set_cons_zero, List.set_cons_succ]
      refine wpList_nil ?_
      have F63 := Lib.hid (F6c.out.row D)
      have HR3 : Hid (RowT ((V2.setRow W.heap.size (trC s c2)).setRow g6 (celB D).toArray) W.heap.size s c2) := Lib.hid (heap_farRow (HRb.out.row s c2) hne _)
      have HJ3 := Lib.hid (HJ.out _ _ _ HJb.out (bel_setRow (bel_setRow (Below.refl W.heap.size V2) (Nat.le_refl _) (trC s c2)) (show W.heap.size ≤ g6 from hsz) (celB D).toArray))
      clear F6b F6c HRb HJb
      generalize (V2.setRow W.heap.size (trC s c2)).setRow g6 (celB D).toArray = V3 at *
      go_wp2_with fail
      go_loopw [7] (fun s7 wr => ∃ i : Nat, i ≤ 4 ∧ s7 = .int .i64 ((8 * i : Nat) : Int) ∧ J (4 * k + i) wr ∧ RowT wr W.heap.size s c2 ∧ RowB wr 30 g6 D) (fun s7 _ => 32 - (intOf s7).toNat)
      case atStart => exact ⟨0, by omega, rfl, HJ3.out, HR3.out, F63.out⟩
      case round =>
        clear HJ3 HR3 F63
        rename_i wo
        obtain ⟨i, hi, rfl, hj, hr, h6⟩ := hrel
        have HJi := Lib.hid hj
        have HRi := Lib.hid hr
        have F6i := Lib.hid h6
        clear hj hr h6
        by_cases hlt2 : i < 4
        · have hi1 : ((8 * i : Nat) : Int) < 32 := by omega
          have hk4 : 8 * i = 0 ∨ 8 * i = 8 ∨ 8 * i = 16 ∨ 8 * i = 24 := by omega
          have hi8 : 8 * i + 8 ≤ 32 := by omega
          have HJd := Lib.hid (HJ.out _ _ _ HJi.out ((Below.refl W.heap.size wr).drew))
          obtain ⟨_, _, _, hci⟩ := HJB.out _ _ HJd.out
          have hy := HY.out (4 * k + i) wr.drew (by omega) HJd.out
          rw [cntF_at hlt2, cdF_at hlt2, HC1.out, HC2.out, HD.out] at hy
          have HYi := Lib.hid hy
          have hval : leV D (8 * i) < 18446744073709551616 := leV_lt HDB.out _
          obtain ⟨V, hV⟩ : ∃ V, leV D (8 * i) = V := ⟨_, rfl⟩
          rw [hV] at HYi hval
          have HV := Lib.hid hV
          have hVL : V % L < L := Nat.mod_lt _ (by omega)
          clear hy hV HJd HJi
          obtain ⟨O, hO⟩ : ∃ O, 8 * i = O := ⟨_, rfl⟩
          rw [hO] at hi1 hk4 hi8 HV ⊢
          have HO := Lib.hid hO
          clear hO
          go_upto_region 8 with fail
          refine (wpIn_wide (n := 2)).1 ?_
          refine wpIn_freeM (YI (fun i v => match i with
            | 0 => v = .func (.yield l) #[] #[]
            | 1 => v = .agg (trC s c2)
            | 2 => v = .int .i64 (O : Int)
            | 3 => v = .slice (some ⟨g6, O, none⟩) (32 - O) (32 - O)
            | 4 => v = .int .u64 (V : Int)
            | 5 => v = .int .i64 (L : Int)
            | 6 => v = .int .u64 (L : Int)
            | 7 => v = .int .u64 ((V % L : Nat) : Int)
            | _ => v = .int .i64 ((V % L : Nat) : Int)) wr.drew (fun t B => (t = true ∧ J (4 * k + i + 1) B ∧ KeepA W.heap.size wr.drew B) ∨ (t = false ∧ Jx (4 * k + i) B))) (by kernel_rfl) (lexOK_of (by kernel_rfl) (by kernel_rfl)) (by kernel_rfl) (by kernel_rfl) (by kernel_rfl)
            ⟨fun i _ h => (by cases h), fun _ => ⟨rfl, rfl⟩, fun h => (by cases h)⟩ ?obl (fun m m' vs W he h => h.ext he) ?fin
          case obl =>
            have hw : ∀ {m : Nat → Bool} {vs : Nat → Value} {W0 : World} {F : Nat → Value → Prop} {T : Bool → World → Prop}, YI F wr.drew T m vs W0 → m 9 = false → W0 = wr.drew := fun h h9 => (h.2.1 h9).2
            refine oblM_cons (fun m vs W0 hcs hm hdp hI => ?_) ?_
            · have h9 := not9 hcs rfl rfl rfl rfl rfl rfl (by kernel_rfl) (by decide) hm
              obtain rfl := hw hI h9
              try simp only [Nat.zero_add, Nat.reduceAdd, Act.put, List.setIfInBounds_toArray, List.set_cons_zero, List.set_cons_succ]
              exact hOpI_val (.func (.yield l) #[] #[]) rfl (hI.step h9 (by decide) rfl)
            refine oblM_cons (fun m vs W0 hcs hm hdp hI => ?_) ?_
            · have h9 := not9 hcs rfl rfl rfl rfl rfl rfl (by kernel_rfl) (by decide) hm
              obtain rfl := hw hI h9
              simp only [Nat.zero_add, Nat.reduceAdd, Act.put, List.setIfInBounds_toArray, List.set_cons_zero, List.set_cons_succ]
              exact hOpI_val (.agg (trC s c2)) (exec_loadT W.heap.size s c2 hl (HRi.out.keep ((Below.refl _ _).drew)) rfl rfl) (hI.step h9 (by decide) rfl)
            refine oblM_cons (fun m vs W0 hcs hm hdp hI => ?_) ?_
            · have h9 := not9 hcs rfl rfl rfl rfl rfl rfl (by kernel_rfl) (by decide) hm
              obtain rfl := hw hI h9
              simp only [Nat.zero_add, Nat.reduceAdd, Act.put, List.setIfInBounds_toArray, List.set_cons_zero, List.set_cons_succ]
              exact hOpI_val (.int .i64 (O : Int)) rfl (hI.step h9 (by decide) rfl)
            refine oblM_cons (fun m vs W0 hcs hm hdp hI => ?_) ?_
            · have h9 := not9 hcs rfl rfl rfl rfl rfl rfl (by kernel_rfl) (by decide) hm
              obtain rfl := hw hI h9
              simp only [Nat.zero_add, Nat.reduceAdd, Act.put, List.setIfInBounds_toArray, List.set_cons_zero, List.set_cons_succ]
              have h2 : vs 2 = .int .i64 (O : Int) := hI.1 2 (by decide) (hdp 2 (by kernel_rfl))
              exact hOpI_val (.slice (some ⟨g6, O, none⟩) (32 - O) (32 - O)) (exec_sliceFrom (x := .tmp 6) (y := .tmp 23) g6 O hk4 _ rfl rfl (by rw [h2]; rfl)) (hI.step h9 (by decide) rfl)
            refine oblM_cons (fun m vs W0 hcs hm hdp hI => ?_) ?_
            · have h9 := not9 hcs rfl rfl rfl rfl rfl rfl (by kernel_rfl) (by decide) hm
              obtain rfl := hw hI h9
              simp only [Nat.zero_add, Nat.reduceAdd, Act.put, List.setIfInBounds_toArray, List.set_cons_zero, List.set_cons_succ]
              have h3 : vs 3 = .slice (some ⟨g6, O, none⟩) (32 - O) (32 - O) := hI.1 3 (by decide) (hdp 3 (by kernel_rfl))
              refine hOpI_of (hOp_call 41 Tryd.func41 (by kernel_rfl) (by kernel_rfl) _ _ #[.slice (some ⟨g6, O, none⟩) (32 - O) (32 - O)] rfl (by simp [Act.eval, h3]) ?_)
              refine (word8_any _ (32 - O) (32 - O) ((D.drop O).take (32 - O)) _ ((F6i.out.keep ((Below.refl _ _).drew)).sub HDB.out (by omega) (Nat.le_refl _) (by omega)) (by omega)).mono ?_
              rintro e _ ⟨rfl, rfl⟩
              exact ⟨_, rfl, hI.step h9 (by decide) (by rw [List.take_of_length_le (by rw [List.length_drop]; omega), leV_drop, HV.out]; rfl)⟩
            refine oblM_cons (fun m vs W0 hcs hm hdp hI => ?_) ?_
            · have h9 := not9 hcs rfl rfl rfl rfl rfl rfl (by kernel_rfl) (by decide) hm
              obtain rfl := hw hI h9
              simp only [Nat.zero_add, Nat.reduceAdd, Act.put, List.setIfInBounds_toArray, List.set_cons_zero, List.set_cons_succ]
              exact hOpI_val (.int .i64 (L : Int)) (exec_loadInt _ (L : Int) hci rfl rfl) (hI.step h9 (by decide) rfl)
            refine oblM_cons (fun m vs W0 hcs hm hdp hI => ?_) ?_
            · have h9 := not9 hcs rfl rfl rfl rfl rfl rfl (by kernel_rfl) (by decide) hm
              obtain rfl := hw hI h9
              simp only [Nat.zero_add, Nat.reduceAdd, Act.put, List.setIfInBounds_toArray, List.set_cons_zero, List.set_cons_succ]
              have h5 : vs 5 = .int .i64 (L : Int) := hI.1 5 (by decide) (hdp 5 (by kernel_rfl))
              exact hOpI_val (.int .u64 (L : Int)) (exec_cvtN (x := .tmp 26) L (by omega) _ rfl (by rw [h5]; rfl)) (hI.step h9 (by decide) rfl)
            refine oblM_cons (fun m vs W0 hcs hm hdp hI => ?_) ?_
            · have h9 := not9 hcs rfl rfl rfl rfl rfl rfl (by kernel_rfl) (by decide) hm
              obtain rfl := hw hI h9
              simp only [Nat.zero_add, Nat.reduceAdd, Act.put, List.setIfInBounds_toArray, List.set_cons_zero, List.set_cons_succ]
              have h4 : vs 4 = .int .u64 (V : Int) := hI.1 4 (by decide) (hdp 4 (by kernel_rfl))
              have h6 : vs 6 = .int .u64 (L : Int) := hI.1 6 (by decide) (hdp 6 (by kernel_rfl))
              exact hOpI_val (.int .u64 ((V % L : Nat) : Int)) (exec_remU (x := .tmp 25) (y := .tmp 27) V L hL1 hval rfl (by rw [h4]; rfl) (by rw [h6]; rfl) _) (hI.step h9 (by decide) rfl)
            refine oblM_cons (fun m vs W0 hcs hm hdp hI => ?_) ?_
            · have h9 := not9 hcs rfl rfl rfl rfl rfl rfl (by kernel_rfl) (by decide) hm
              obtain rfl := hw hI h9
              simp only [Nat.zero_add, Nat.reduceAdd, Act.put, List.setIfInBounds_toArray, List.set_cons_zero, List.set_cons_succ]
              have h7 : vs 7 = .int .u64 ((V % L : Nat) : Int) := hI.1 7 (by decide) (hdp 7 (by kernel_rfl))
              exact hOpI_val (.int .i64 ((V % L : Nat) : Int)) (exec_cvtI (x := .tmp 28) (V % L) (by omega) _ rfl (by rw [h7]; rfl)) (hI.step h9 (by decide) rfl)
            refine oblM_cons (fun m vs W0 hcs hm hdp hI => ?_) ?_
            · simp only [Nat.zero_add, Nat.reduceAdd, Act.put, List.setIfInBounds_toArray, List.set_cons_zero, List.set_cons_succ]
              have h0 : vs 0 = .func (.yield l) #[] #[] := hI.1 0 (by decide) (hdp 0 (by kernel_rfl))
              have h1 : vs 1 = .agg (trC s c2) := hI.1 1 (by decide) (hdp 1 (by kernel_rfl))
              have h8 : vs 8 = .int .i64 ((V % L : Nat) : Int) := hI.1 8 (by decide) (hdp 8 (by kernel_rfl))
              obtain rfl := hw hI hm
              refine hOpI_yield 21 l _ _ #[.agg (trC s c2), .int .i64 ((V % L : Nat) : Int)] rfl (by rw [h0]; rfl) (by simp [Act.eval, h1, h8]) HYi.out ?_
              rintro e W' (⟨rfl, hj, hk⟩ | ⟨rfl, hj⟩)
              · exact ⟨_, rfl, hI.yield hm (.inl ⟨rfl, hj, hk⟩)⟩
              · exact ⟨_, rfl, hI.yield hm (.inr ⟨rfl, hj⟩)⟩
            refine oblM_cons (fun m vs W0 hcs hm hdp hI => ?_) ?_
            · simp only [Nat.zero_add, Nat.reduceAdd, Act.put, List.setIfInBounds_toArray, List.set_cons_zero, List.set_cons_succ]
              have m9 : m 9 = true := hdp 9 (by kernel_rfl)
              obtain ⟨t, e, _, _⟩ := hI.2.2 m9
              exact hOpI_val (.bool (!t)) (exec_not (x := .tmp 30) t rfl (by rw [e]; rfl) W0) (hI.last m9 (fun t' e' => by rw [e] at e'; injection e' with e'; rw [e']))
            trivial
          case fin =>
            intro m vs W0 hall hI
            obtain ⟨t, e9, e10, ht⟩ := hI.2.2 (hall 9 (by decide))
            have e10 := e10 (hall 10 (by decide))
            clear hI hall
            simp only [putsT, Nat.zero_add, Nat.reduceAdd, Act.put, List.setIfInBounds_toArray, List.set_cons_zero, List.set_cons_succ, e9, e10]
            generalize vs 0 = v0, vs 1 = v1, vs 2 = v2, vs 3 = v3, vs 4 = v4, vs 5 = v5, vs 6 = v6, vs 7 = v7, vs 8 = v8
            rcases ht with ⟨rfl, hj, hk2⟩ | ⟨rfl, hj⟩
            · have HJn := Lib.hid hj
              have HRn := Lib.hid (hk2.2 _ _ (Nat.le_refl _) (show wr.drew.heap[W.heap.size]? = _ from HRi.out))
              have F6n := Lib.hid (hk2.2 _ _ hsz (show wr.drew.heap[g6]? = _ from F6i.out))
              clear hj hk2 e9 e10
              go_wp2_with fail
              go_roundw
              case rel =>
                have := HO.out
                exact ⟨i + 1, by omega, by go_num, HJn.out, HRn.out, F6n.out⟩
              case measure => simp [intOf]; omega
            · have HJx := Lib.hid hj
              clear hj e9 e10
              go_wp2_with fail
              (try simp only [Exit.inBlock, Exit.then])
              refine ⟨rfl, .tuple #[], results_none rfl _ _ _, ⟨_, rfl⟩, .inr ⟨4 * k + i, by omega, HJx.out⟩⟩
        · have hi1 : ¬ ((8 * i : Nat) : Int) < 32 := by omega
          obtain rfl : i = 4 := by omega
          go_wp2_with fail
          go_roundw
          case rel => exact ⟨k + 1, by omega, by go_num, by rw [show 4 * (k + 1) = 4 * k + 4 by omega]; exact HJi.out, by rw [show c + (k + 1) = c + k + 1 by omega, HC2.out]; exact HRi.out⟩
          case measure => simp [intOf]; omega
    · have hk1 : ¬ (k : Int) < 4096 := by omega
      obtain rfl : k = 4096 := by omega
      go_wp2_with fail
      (try simp only [Exit.inBlock, Exit.then])
      refine ⟨rfl, .tuple #[], results_none rfl _ _ _, ⟨_, rfl⟩, .inl HJk.out⟩
end Go.Proofs.YtcaoajeplinopaaDoor

namespace Go.Proofs.YtcaoajeplinopaaDoor
set_option linter.unusedVariables false
set_option linter.unusedSimpArgs false
set_option maxRecDepth 8000
open Go.RowKit Go.Maps
open Go.Shelf
attribute [local simp] z32_ne z32_run
attribute [-simp] Tryd.zeroValue30 Tryd.isAgg30 Tryd.sizeOf30
attribute [-simp] Tryd.zeroValue32 Tryd.isAgg32 Tryd.sizeOf32
attribute [local simp] z33_ne z33_run
attribute [local irreducible] wpList
set_option maxHeartbeats 1000000 in
theorem candidates_any (s : List Nat) (c : Nat) (lb : ByteArray) (L : Nat) (w : World) :
    Calls Tryd.prog 52 #[.agg (trC s c), .string lb, .int .i64 (L : Int)] w fun e w' => ∃ b b1 b2, e = .returned (.func (.func 61) #[] #[.pointer (some ⟨b, 0, none⟩), .pointer (some ⟨b1, 0, none⟩), .pointer (some ⟨b2, 0, none⟩)]) ∧ w.heap.size ≤ b ∧ w.heap.size ≤ b1 ∧ w.heap.size ≤ b2 ∧ RowT w' b s c ∧ One w' b1 9 (.string lb) ∧ One w' b2 3 (.int .i64 (L : Int)) ∧ Below w.heap.size w w' := by
  go_enter Tryd.func52, Tryd.ntmps52
  go_upto_region 1 with fail
  refine wp_named3 (fun V1 hb g0 g1 g2 hlt => ?_)
  go_wp2_with fail
  go_ret
  exact ⟨_, _, _, rfl, Nat.le_refl _, by omega, by omega, g0, g1, g2, hb⟩
end Go.Proofs.YtcaoajeplinopaaDoor

namespace Go.Proofs.YtcaoajeplinopaaDoor
set_option linter.unusedVariables false
set_option linter.unusedSimpArgs false
set_option maxRecDepth 8000
open Go.RowKit Go.Maps
open Go.Shelf
attribute [local simp] z32_ne z32_run
attribute [-simp] Tryd.zeroValue30 Tryd.isAgg30 Tryd.sizeOf30
attribute [-simp] Tryd.zeroValue32 Tryd.isAgg32 Tryd.sizeOf32
attribute [local simp] z33_ne z33_run
attribute [local irreducible] wpList
theorem OwZ.mono {w : World} {b b' n : Nat} {v : Value} {is : List Int} (h : OwZ w b v n is) (hb : b' ≤ b) : OwZ w b' v n is := ⟨h.1, h.2.elim .inl fun ⟨g, cap, cur, h1, h2, h3⟩ => .inr ⟨g, cap, cur, h1, Nat.le_trans hb h2, h3⟩⟩
theorem OwZ.same {w w' : World} {b n : Nat} {v : Value} {is : List Int} (h : OwZ w b v n is) (hk : ∀ g cs, b ≤ g → w.heap[g]? = some (.cells cs 3 (0, 0)) → w'.heap[g]? = some (.cells cs 3 (0, 0))) : OwZ w' b v n is := ⟨h.1, h.2.elim .inl fun ⟨g, cap, cur, h1, h2, h3, h4⟩ => .inr ⟨g, cap, cur, h1, h2, hk g _ h2 h3, h4⟩⟩
theorem SetM.same {w w' : World} {B : Nat} {l : List Nat} (h : SetM w B l) (e : w'.heap[B]? = w.heap[B]?) : SetM w' B l := by
  obtain ⟨h1, h2, D, ⟨es, clock, hb, F, hs, hD⟩, h3⟩ := h
  exact ⟨h1, h2, D, ⟨es, clock, e.trans hb, F, hs, hD⟩, h3⟩
/-- the count after i candidates -/
def lastC (c i : Nat) : Nat := (c + outsN i) % 18446744073709551616
theorem lastC_succ (c i : Nat) : lastC c (i + 1) = cntF c i := by
  unfold lastC cntF outsN
  rw [show (i + 1 + 3) / 4 = i / 4 + 1 by omega, ← Nat.add_assoc]
theorem lastC_zero {c : Nat} (h : c < 18446744073709551616) : lastC c 0 = c := by
  unfold lastC outsN
  omega
section
variable {P : Program} {ops : Array Oper} {Q : Exit → Act → World → Prop} {rest : List Oper} {o : Oper} {a : Act} {w : World} {l N : Nat}
theorem wpListR_val (hw : Region.wanted o (yielded ops a.tmps) = true) (hd : ∀ c, o.op ≠ .defer c) (v : Value) (w' : World) (hr : (execOp a.eval o).run P w = .ok (.value v) w') (h : wpListIn (Fence.wide.inRound l) N P ops Q rest (a.put o.dst v) w') : wpListIn (Fence.wide.inRound l) N P ops Q (o :: rest) a w :=
  wpListIn_step fun K hK => by rw [if_pos hw]; exact ⟨fun _ _ => trivial, by rw [Oper.semAt_eq _ _ _ hd, hr]; exact hK _ _ h⟩
theorem wpListR_skip (hw : Region.wanted o (yielded ops a.tmps) = true) (hd : ∀ c, o.op ≠ .defer c) (w' : World) (hr : (execOp a.eval o).run P w = .ok .skip w') (h : wpListIn (Fence.wide.inRound l) N P ops Q rest (a.put o.dst undef) w') : wpListIn (Fence.wide.inRound l) N P ops Q (o :: rest) a w :=
  wpListIn_step fun K hK => by rw [if_pos hw]; exact ⟨fun _ _ => trivial, by rw [Oper.semAt_eq _ _ _ hd, hr]; exact hK _ _ h⟩
end
theorem zip2 (p q : Tmp) (t : Array Value) (u v : Value) : ((#[p, q] : Array Tmp).zip #[u, v]).foldl (fun t (p, v) => t.setIfInBounds p v) t = (t.setIfInBounds p u).setIfInBounds q v := by
  simp
theorem exec_putM {ev : Operand → Value} {o : Oper} {w w' : World} {B z : Nat} (m x : Operand) (hop : o.op = Op.mapUpdate 90 m x (.const (.bool true))) (hv : ev (.const (.bool true)) = .bool true) (hm : ev m = .map (some B)) (hx : ev x = .int .i64 (z : Int))
    (hrun : (Instr.mapUpdate 90 (.map (some B)) (.int .i64 (z : Int)) (.bool true)).run Tryd.prog w = .ok () w') : (execOp ev o).run Tryd.prog w = .ok .skip w' := by
  unfold execOp
  simp [hop, hm, hx, hv, hrun, Result.andThen]
theorem exec_lenM {ev : Operand → Value} {o : Oper} {w : World} {B : Nat} {l : List Nat} (m : Operand) (n : Nat) (hn : l.length = n) (hop : o.op = Op.call { callee := Callee.builtin Builtin.len, args := #[m], argTypes := #[90] }) (hm : ev m = .map (some B)) (h : SetM w B l) :
    (execOp ev o).run Tryd.prog w = .ok (.value (.int .i64 (n : Int))) w := by
  obtain ⟨_, _, D, hown, hsz, _⟩ := h
  have := hown.len Tryd.underlying90 o.type
  unfold execOp
  simp [hop, resolve, invoke, builtin, hm, this, Result.andThen, hsz, hn]
theorem exec_loadV {ev : Operand → Value} {o : Oper} {x : Operand} {w : World} (a : Addr) (B : Nat) (hc : w.cell? a = some (.map (some B))) (ho : o.op = .load 90 x) (hx : ev x = .pointer (some a)) :
    (execOp ev o).run Tryd.prog w = .ok (.value (.map (some B))) w := by
  unfold execOp
  simp only [ho, hx]
  go_simp
section
variable {ev : Operand → Value} {o : Oper}
theorem exec_makeM (ho : o.op = .makeMap 90 none) (w : World) : (execOp ev o).run Tryd.prog w = .ok (.value (.map (some w.heap.size))) (w.alloc (.map #[] 0)) := by
  unfold execOp
  rw [ho]
  rfl
theorem exec_allocM (ho : o.op = .alloc 90) (w : World) : (execOp ev o).run Tryd.prog w = .ok (.value (ptr w.heap.size)) (w.alloc (.cells #[.map none] 90)) := by
  unfold execOp
  simp only [ho]
  go_simp
  rfl
theorem exec_storeM {x y : Operand} {w : World} {u : Value} (g B : Nat) (hc : One w g 90 u) (ho : o.op = .store 90 x y) (hx : ev x = .pointer (some ⟨g, 0, none⟩)) (hy : ev y = .map (some B)) :
    (execOp ev o).run Tryd.prog w = .ok .skip (w.setCell ⟨g, 0, none⟩ (.map (some B))) := by
  have h1 := hc.c
  have h2 := hc.f
  unfold execOp
  simp only [ho, hx, hy]
  go_simp
end
theorem exec_eqZ {ev : Operand → Value} {o : Oper} {x y : Operand} {ty : TypeId} {w : World} (a b : Nat) (t : Bool) (ht : decide (a = b) = t) (ho : o.op = .binOp .eql 3 x y ty) (hx : ev x = .int .i64 (a : Int)) (hy : ev y = .int .i64 (b : Int)) : (execOp ev o).run Tryd.prog w = .ok (.value (.bool t)) w := by
  have h : decide ((a : Int) = (b : Int)) = t := by rw [← ht]; exact decide_eq_decide.2 (by omega)
  unfold execOp
  simp only [ho, hx, hy]
  cases t
  · have h2 : ¬ (a : Int) = (b : Int) := of_decide_eq_false h
    go_simp
  · have h2 : (a : Int) = (b : Int) := of_decide_eq_true h
    rw [h2]
    go_simp
/-- what the loop keeps after i candidates -/
def PickJ (s : List Nat) (c : Nat) (f : Nat → Nat) (n : Nat) (w : World) (g5 g6 g8 g9 B0 : Nat) (i : Nat) (B : World) : Prop :=
  One B g5 3 (.int .i64 (n : Int)) ∧ RowT B g6 (List.replicate 32 0) 0 ∧ RowT B g8 s (lastC c i) ∧ One B g9 90 (.map (some B0)) ∧ SetM B B0 (drawT f i) ∧ Below w.heap.size w B
section
variable {s : List Nat} {c n g5 g6 g8 g9 B0 i N : Nat} {f : Nat → Nat} {w A B : World}
theorem PickJ.below (h5 : g5 < N) (h6 : g6 < N) (h8 : g8 < N) (h9 : g9 < N) (hB : B0 < N) (hw : w.heap.size ≤ N) (h : PickJ s c f n w g5 g6 g8 g9 B0 i A) (hb : Below N A B) : PickJ s c f n w g5 g6 g8 g9 B0 i B := by
  obtain ⟨a, b, r, d, e, k⟩ := h
  exact ⟨(hb.block _ h5).trans a, (hb.block _ h6).trans b, (hb.block _ h8).trans r, (hb.block _ h9).trans d, e.same (hb.block _ hB), k.trans (hb.mono hw)⟩
theorem PickJ.step (h8 : g8 < N) (hB : B0 < N) (e58 : g5 ≠ g8) (e68 : g6 ≠ g8) (e98 : g9 ≠ g8) (eB8 : B0 ≠ g8) (e5B : g5 ≠ B0) (e6B : g6 ≠ B0) (e9B : g9 ≠ B0) (hw8 : w.heap.size ≤ g8) (hwB : w.heap.size ≤ B0) (hf : f i < 65536)
    (h : PickJ s c f n w g5 g6 g8 g9 B0 i A) : ∃ V, (Instr.mapUpdate 90 (.map (some B0)) (.int .i64 ((f i : Nat) : Int)) (.bool true)).run Tryd.prog (A.setRow g8 (trC s (cntF c i))) = .ok () V ∧ PickJ s c f n w g5 g6 g8 g9 B0 (i + 1) V ∧ KeepA N A V := by
  obtain ⟨a, b, r, d, e, k⟩ := h
  have e1 : SetM (A.setRow g8 (trC s (cntF c i))) B0 (drawT f i) := e.same (by simp [World.setRow, Array.getElem?_modify, Ne.symm eB8])
  obtain ⟨V, hrun, hm, hg⟩ := e1.put hf
  have far : ∀ {g : Nat} {o : Obj}, g ≠ B0 → (A.setRow g8 (trC s (cntF c i))).heap[g]? = some o → V.heap[g]? = some o := fun hne h0 => (hg.block _ (Array.getElem?_eq_some_iff.1 h0).1 (fun e => hne (by injection e))).trans h0
  refine ⟨V, hrun, ⟨far e5B (heap_farRow a e58 _), far e6B (heap_farRow b e68 _), far (Ne.symm eB8) (by rw [lastC_succ]; exact r.row s (cntF c i)), far e9B (heap_farRow d e98 _), hm, ?_⟩, ?_⟩
  · exact grown_below (bel_setRow k hw8 _) hg (fun k e => by injection e with e; omega)
  · exact ((KeepA.refl N A).row h8 _).trans ⟨hg.size, fun b o hb ho => far (by omega) ho⟩
end
set_option maxRecDepth 100000 in
set_option maxHeartbeats 4000000 in
theorem pick_any (s : List Nat) (c : Nat) (lb : ByteArray) (L n b b1 b2 : Nat) (hl : s.length = 32) (hsb : ∀ x ∈ s, x < 256) (hc : c < 18446744073709551616) (hlb : lb.size ≤ 200) (hL1 : 1 ≤ L) (hL : L ≤ 65536) (hn1 : 1 ≤ n) (hnL : n ≤ L) (hnK : n ≤ 16384) (w : World) (hG : Gl w)
    (h1 : RowT w b s c) (h2 : One w b1 9 (.string lb)) (h3 : One w b2 3 (.int .i64 (L : Int))) (f : Nat → Nat) (hf : cdF s lb c L = f) (R : List Nat) (hR : pickT f n L 16384 = R) (c' : Nat) (hc' : lastC c (stopT f n 16384) = c') :
    Calls Tryd.prog 51 #[.agg (trC s c), .func (.func 61) #[] #[.pointer (some ⟨b, 0, none⟩), .pointer (some ⟨b1, 0, none⟩), .pointer (some ⟨b2, 0, none⟩)], .int .i64 (n : Int)] w fun e w' => ∃ v, e = .returned (.tuple #[.agg (trC s c'), v]) ∧ OwZ w' w.heap.size v n (R.map fun x : Nat => (x : Int)) ∧ Below w.heap.size w w' := by
  have HSB := Lib.hid hsb
  have H1 := Lib.hid h1
  have H2 := Lib.hid h2
  have H3 := Lib.hid h3
  have HG := Lib.hid hG
  have HF := Lib.hid hf
  have HR := Lib.hid hR
  have HC := Lib.hid hc'
  have hfL : ∀ i, f i < L := fun i => by rw [← hf]; exact Nat.mod_lt _ (by omega)
  have HFL := Lib.hid hfL
  clear hsb h1 h2 h3 hG hf hR hc' hfL
  refine (callsIn_wide (n := 3)).1 ?_
  refine callsIn_of_wp_marks Tryd.func51 rfl trivial ?_ rfl
  simp only [Tryd.ntmps51, List.size_toArray, List.length_cons, List.length_nil, Nat.reduceAdd, Nat.reduceSub, Array.replicate_succ, Array.replicate_zero, List.push_toArray, List.append_toArray, List.nil_append, List.cons_append]
  refine wpIn_wide.2 ?_
  go_upto_region 1 with fail
  refine wp_named3 (fun V1 hb g0 g1 g2 hlt => ?_)
  have B1 := Lib.hid hb
  have F5 : Hid (One V1 (w.heap.size + 1) 3 (.int .i64 (n : Int))) := Lib.hid g1
  have F6 : Hid (RowT V1 (w.heap.size + 1 + 1) (List.replicate 32 0) 0) := Lib.hid g2
  refine wp_region_lit ?_
  refine wpList_run (by kernel_rfl) (.agg (trC s c)) V1 (exec_loadT w.heap.size s c hl g0 rfl rfl) ?_
  simp only [Act.put, List.setIfInBounds_toArray, List.set_cons_zero, List.set_cons_succ]
  clear hb g0 g1 g2
  refine wpList_run (by kernel_rfl) (ptr V1.heap.size) (V1.alloc (.cells z33 32)) (exec_allocT V1 rfl) ?_
  simp only [ptr, Act.put, List.setIfInBounds_toArray, List.set_cons_zero, List.set_cons_succ]
  have F80 : Hid (RowT (V1.alloc (.cells z33 32)) V1.heap.size (List.replicate 32 0) 0) := Lib.hid (heap_new V1 _)
  refine wpList_run0 (by kernel_rfl) _ (exec_storeT V1.heap.size (List.replicate 32 0) 0 s c List.length_replicate hl F80.out rfl rfl rfl) ?_
  simp only [Act.put, List.setIfInBounds_toArray, List.set_cons_zero, List.set_cons_succ]
  refine wpList_nil ?_
  have F8 := Lib.hid (F80.out.row s c)
  have B2 := Lib.hid (bel_setRow ((Below.refl V1.heap.size V1).alloc (Nat.le_refl _) (.cells z33 32)) (Nat.le_refl _) (trC s c))
  clear F80
  generalize (V1.alloc (.cells z33 32)).setRow V1.heap.size (trC s c) = V2 at *
  go_upto_region 2 with fail
  refine wp_region_lit ?_
  refine wpList_run (by kernel_rfl) (.map (some V2.heap.size)) (V2.alloc (.map #[] 0)) (exec_makeM rfl V2) ?_
  simp only [Act.put, List.setIfInBounds_toArray, List.set_cons_zero, List.set_cons_succ]
  have HM0 := Lib.hid (SetM.made V2)
  have B3 := Lib.hid ((Below.refl V2.heap.size V2).alloc (Nat.le_refl _) (.map #[] 0))
  have hs3 : (V2.alloc (.map #[] 0)).heap.size = V2.heap.size + 1 := by simp
  generalize V2.alloc (.map #[] 0) = V3 at *
  refine wpList_run (by kernel_rfl) (ptr V3.heap.size) (V3.alloc (.cells #[.map none] 90)) (exec_allocM rfl V3) ?_
  simp only [ptr, Act.put, List.setIfInBounds_toArray, List.set_cons_zero, List.set_cons_succ]
  have F90 := Lib.hid (One.new V3 90 (.map none))
  have B4 := Lib.hid ((Below.refl V3.heap.size V3).alloc (Nat.le_refl _) (.cells #[.map none] 90))
  refine wpList_run0 (by kernel_rfl) _ (exec_storeM V3.heap.size V2.heap.size F90.out rfl rfl rfl) ?_
  simp only [Act.put, List.setIfInBounds_toArray, List.set_cons_zero, List.set_cons_succ]
  refine wpList_nil ?_
  have F9 := Lib.hid (F90.out.set (.map (some V2.heap.size)))
  have B5 := Lib.hid (B4.out.setCell (p := ⟨V3.heap.size, 0, none⟩) (Nat.le_refl _) (.map (some V2.heap.size)))
  have hs8 : V1.heap.size < V2.heap.size := (Array.getElem?_eq_some_iff.1 F8.out).1
  have hs9 := F9.out.lt
  clear F90 B4
  generalize (V3.alloc (.cells #[.map none] 90)).setCell ⟨V3.heap.size, 0, none⟩ (.map (some V2.heap.size)) = V5 at *
  have C25 := Lib.hid (bel_step B3.out B5.out)
  have C15 := Lib.hid (bel_step B2.out C25.out)
  have P0 : Hid (PickJ s c f n w (w.heap.size + 1) (w.heap.size + 1 + 1) V1.heap.size V3.heap.size V2.heap.size 0 V5) := Lib.hid ⟨F5.out.keep C15.out, F6.out.keep C15.out, by rw [lastC_zero hc]; exact F8.out.keep C25.out, F9.out, HM0.out.keep B5.out, bel_step B1.out C15.out⟩
  clear B1 B2 B3 B5 C25 C15 F5 F6 F8 F9 HM0
  generalize V1.heap.size = g8 at *
  generalize V2.heap.size = B0 at *
  generalize V3.heap.size = g9 at *
  generalize hN : V5.heap.size = N at *
  go_wp2_with fail
  refine (wpIn_wide (n := 3)).1 ?_
  refine wpIn_rangeBrk 0 (gf := 61) (lb := #[.pointer (some ⟨b, 0, none⟩), .pointer (some ⟨b1, 0, none⟩), .pointer (some ⟨b2, 0, none⟩)]) rfl (enters_of Tryd.func61 (by kernel_rfl) rfl) (fun i : Nat => #[.agg (trC s (cntF c i)), .int .i64 ((f i : Nat) : Int)]) (fun _ => rfl) 16384
    (fun i B => PickJ s c f n w (w.heap.size + 1) (w.heap.size + 1 + 1) g8 g9 B0 i B ∧ (drawT f i).length < n) (fun i B => PickJ s c f n w (w.heap.size + 1) (w.heap.size + 1 + 1) g8 g9 B0 (i + 1) B ∧ (drawT f i).length < n ∧ (drawT f (i + 1)).length = n) (fun i x _ => x = i)
    (fun i A B h hb => ⟨h.1.below (by omega) (by omega) (by omega) (by omega) (by omega) (by omega) hb, h.2⟩) (fun i A B h hb => ⟨h.1.below (by omega) (by omega) (by omega) (by omega) (by omega) (by omega) hb, h.2⟩) ⟨P0.out, by show 0 < n; omega⟩ ?iter ?round ?fin ?stop
  case iter =>
    intro l W0 J' Jx' hJ' hJB hWW hY h0
    have hbl : ∀ i B, J' i B → Below w.heap.size w B := fun i B h => (hJB i B h).1.1.2.2.2.2.2
    exact cand_iter s c lb L b b1 b2 hl HSB.out hc hlb hL1 hL l W0 J' Jx' hJ' (fun i B h => ⟨(hJB i B h).2, HG.out.keep (hbl i B h), (H2.out.keep (hbl i B h)).c, (H3.out.keep (hbl i B h)).c⟩) (H1.out.keep (hbl 0 W0 h0)) (fun i B hi hj => by rw [HF.out]; exact hY i i B hi hj rfl) h0
  case round =>
    intro l i x A hi hl0 hlA hLp hj hx
    subst hx
    have hA : V5.heap.size ≤ A.heap.size := by omega
    have hb1 : Below A.heap.size A ((A.alloc (.cells z33 32)).setRow A.heap.size (trC s (cntF c x))) := bel_setRow ((Below.refl _ _).alloc (Nat.le_refl _) _) (Nat.le_refl _) _
    have h10 : RowT (A.alloc (.cells z33 32)) A.heap.size (List.replicate 32 0) 0 := heap_new A _
    have hx16 : f x < 65536 := by have := HFL.out x; omega
    rw [zip2]
    simp only [List.setIfInBounds_toArray, List.set_cons_zero, List.set_cons_succ]
    refine wpIn_seq ?_
    refine wpIn_region_lit ?_
    refine wpListR_val (by kernel_rfl) (fun _ e => by cases e) (ptr A.heap.size) (A.alloc (.cells z33 32)) (exec_allocT A rfl) ?_
    simp only [ptr, Act.put, List.setIfInBounds_toArray, List.set_cons_zero, List.set_cons_succ]
    refine wpListR_skip (by kernel_rfl) (fun _ e => by cases e) _ (exec_storeT A.heap.size (List.replicate 32 0) 0 s (cntF c x) List.length_replicate hl h10 rfl rfl rfl) ?_
    simp only [ptr, Act.put, List.setIfInBounds_toArray, List.set_cons_zero, List.set_cons_succ]
    refine wpListIn_nil ?_
    simp only [Exit.then]
    refine wpIn_region_lit ?_
    refine wpListR_val (by kernel_rfl) (fun _ e => by cases e) (.int .i64 ((f x : Nat) : Int)) _ rfl ?_
    simp only [ptr, Act.put, List.setIfInBounds_toArray, List.set_cons_zero, List.set_cons_succ]
    refine wpListIn_nil ?_
    simp only [Exit.then]
    refine ⟨KeepA.of_below hb1, ⟨hj.1.below (by omega) (by omega) (by omega) (by omega) (by omega) (by omega) (hb1.mono hA), hj.2⟩, fun B2 hk hb2 hk2 => ?_⟩
    have hr : RowT B2 A.heap.size s (cntF c x) := hk2 _ _ (by omega) (h10.row s (cntF c x))
    have hp := (hj.1.below (by omega) (by omega) (by omega) (by omega) (by omega) (by omega) (hb1.mono hA)).below (by omega) (by omega) (by omega) (by omega) (by omega) (by omega) hb2
    obtain ⟨V, hrun, hpV, hkV⟩ := hp.step (N := V5.heap.size) (by omega) (by omega) (by omega) (by omega) (by omega) (by omega) (by omega) (by omega) (by omega) (by omega) (by omega) hx16
    have hq := hpV
    obtain ⟨p5, p6, p8, p9, pm, pb⟩ := hp
    obtain ⟨q5, _, _, q9, qm, _⟩ := hq
    have p92 : One (B2.setRow g8 (trC s (cntF c x))) g9 90 (.map (some B0)) := heap_farRow p9 (by omega) _
    clear hk hb2 hk2 hb1 h10
    refine wpIn_block ?_
    refine wpIn_seq ?_
    refine wpIn_region_lit ?_
    refine wpListR_val (by kernel_rfl) (fun _ e => by cases e) (.agg (trC s (cntF c x))) B2 (exec_loadT A.heap.size s _ hl hr rfl rfl) ?_
    simp only [ptr, Act.put, List.setIfInBounds_toArray, List.set_cons_zero, List.set_cons_succ]
    refine wpListR_skip (by kernel_rfl) (fun _ e => by cases e) _ (exec_storeT g8 s (lastC c x) s (cntF c x) hl hl p8 rfl rfl rfl) ?_
    simp only [ptr, Act.put, List.setIfInBounds_toArray, List.set_cons_zero, List.set_cons_succ]
    refine wpListIn_nil ?_
    simp only [Exit.then]
    refine wpIn_seq ?_
    refine wpIn_region_lit ?_
    refine wpListR_val (by kernel_rfl) (fun _ e => by cases e) (.map (some B0)) _ (exec_loadV ⟨g9, 0, none⟩ B0 p92.c rfl rfl) ?_
    simp only [ptr, Act.put, List.setIfInBounds_toArray, List.set_cons_zero, List.set_cons_succ]
    refine wpListR_val (by kernel_rfl) (fun _ e => by cases e) (.int .i64 ((f x : Nat) : Int)) _ rfl ?_
    simp only [ptr, Act.put, List.setIfInBounds_toArray, List.set_cons_zero, List.set_cons_succ]
    refine wpListR_skip (by kernel_rfl) (fun _ e => by cases e) V (exec_putM (.tmp 18) (.tmp 19) rfl rfl rfl rfl hrun) ?_
    simp only [ptr, Act.put, List.setIfInBounds_toArray, List.set_cons_zero, List.set_cons_succ]
    refine wpListIn_nil ?_
    simp only [Exit.then]
    refine wpIn_seq ?_
    refine wpIn_region_lit ?_
    refine wpListR_val (by kernel_rfl) (fun _ e => by cases e) (.map (some B0)) V (exec_loadV ⟨g9, 0, none⟩ B0 q9.c rfl rfl) ?_
    simp only [ptr, Act.put, List.setIfInBounds_toArray, List.set_cons_zero, List.set_cons_succ]
    obtain ⟨m, hm⟩ : ∃ m, (drawT f (x + 1)).length = m := ⟨_, rfl⟩
    refine wpListR_val (by kernel_rfl) (fun _ e => by cases e) (.int .i64 (m : Int)) V (exec_lenM (.tmp 20) m hm rfl rfl qm) ?_
    simp only [ptr, Act.put, List.setIfInBounds_toArray, List.set_cons_zero, List.set_cons_succ]
    refine wpListR_val (by kernel_rfl) (fun _ e => by cases e) (.int .i64 (n : Int)) V (exec_loadInt ⟨w.heap.size + 1, 0, none⟩ (n : Int) q5.c rfl rfl) ?_
    simp only [ptr, Act.put, List.setIfInBounds_toArray, List.set_cons_zero, List.set_cons_succ]
    by_cases hmn : m = n
    · refine wpListR_val (by kernel_rfl) (fun _ e => by cases e) (.bool true) V (exec_eqZ (x := .tmp 21) (y := .tmp 22) m n true (decide_eq_true hmn) rfl rfl rfl) ?_
      simp only [ptr, Act.put, List.setIfInBounds_toArray, List.set_cons_zero, List.set_cons_succ]
      refine wpListIn_nil ?_
      simp only [Exit.then]
      refine wpIn_cond_true rfl (wpIn_exit ?_)
      exact ⟨rfl, hkV, hpV, hj.2, hm.trans hmn⟩
    · refine wpListR_val (by kernel_rfl) (fun _ e => by cases e) (.bool false) V (exec_eqZ (x := .tmp 21) (y := .tmp 22) m n false (decide_eq_false hmn) rfl rfl rfl) ?_
      simp only [ptr, Act.put, List.setIfInBounds_toArray, List.set_cons_zero, List.set_cons_succ]
      refine wpListIn_nil ?_
      simp only [Exit.then]
      refine wpIn_cond_false rfl (wpIn_skip ?_)
      have h1 := (drawT_step f x).2
      have h2 := hj.2
      exact ⟨hkV, hpV, by omega⟩
  case' fin =>
    intro D B hD hj hd
    have hS : stopT f n 16384 = 16384 := stopT_eq (Nat.le_refl _) (fun j hjk => Nat.lt_of_le_of_lt (drawT_len_mono f (Nat.le_of_lt hjk)) hj.2) (fun h => absurd h (Nat.lt_irrefl _))
    have hp := Lib.hid hj.1
    rw [← hS] at hp
    clear hj hS
  case' stop =>
    intro D i B hD hi hj hd
    refine wpIn_exit ?_
    have hS : stopT f n 16384 = i + 1 := stopT_eq (by omega) (fun j hjk => Nat.lt_of_le_of_lt (drawT_len_mono f (by omega)) hj.2.1) (fun _ => by rw [hj.2.2]; exact Nat.le_refl _)
    have hp := Lib.hid hj.1
    rw [← hS] at hp
    clear hj hS
  all_goals
    simp only [Exit.inBlock, Exit.then, if_true]
    obtain ⟨p5, p6, p8, p9, pm, pb⟩ := hp.out
    rw [HC.out] at p8
    have hSn : (drawT f (stopT f n 16384)).length ≤ n := stopT_len f n 16384
    have hRf : fillT n L 0 (drawT f (stopT f n 16384)) = R := by rw [← HR.out]; rfl
    have hRn : R.length = n := by rw [← HR.out]; exact pickT_length hnL
    clear hp
    go_upto_region 9 with fail
    refine wp_region_lit ?_
    refine wpList_run (by kernel_rfl) (.map (some B0)) B (exec_loadV ⟨g9, 0, none⟩ B0 p9.c rfl rfl) ?_
    simp only [Act.put, List.setIfInBounds_toArray, List.set_cons_zero, List.set_cons_succ]
    refine wpList_run (by kernel_rfl) (.int .i64 (n : Int)) B (exec_loadInt ⟨w.heap.size + 1, 0, none⟩ (n : Int) p5.c rfl rfl) ?_
    simp only [Act.put, List.setIfInBounds_toArray, List.set_cons_zero, List.set_cons_succ]
    refine wpList_call (by kernel_rfl) 59 Tryd.func59 (by kernel_rfl) (by kernel_rfl) _ _ #[.map (some B0), .int .i64 (n : Int)] rfl (by kernel_rfl) ?_
    refine (fill_any B0 n L _ B pm hnL hL R hRf).mono ?_
    rintro e V ⟨rfl, hm, hg⟩
    refine ⟨_, rfl, ?_⟩
    simp only [Act.put, List.setIfInBounds_toArray, List.set_cons_zero, List.set_cons_succ]
    refine wpList_nil ?_
    have far : ∀ {g : Nat} {o : Obj}, g ≠ B0 → B.heap[g]? = some o → V.heap[g]? = some o := fun hne h0 => (hg.block _ (Array.getElem?_eq_some_iff.1 h0).1 (fun e => hne (by injection e))).trans h0
    have q6 : RowT V (w.heap.size + 1 + 1) (List.replicate 32 0) 0 := far (by omega) p6
    have q8 : RowT V g8 s c' := far (by omega) p8
    have q9 : One V g9 90 (.map (some B0)) := far (by omega) p9
    have qd : V.heap[D]? = some (.deferred (some [])) := far (by omega) hd
    have qb : Below w.heap.size w V := grown_below pb hg (fun k e => by injection e with e; omega)
    have qs : V5.heap.size ≤ V.heap.size := by have := (Array.getElem?_eq_some_iff.1 qd).1; omega
    clear far p5 p6 p8 p9 pm pb hg hd hRf hSn
    go_upto_region 10 with fail
    refine wp_free (fun W => RowT W g8 s c' ∧ One W g9 90 (.map (some B0)) ∧ SetM W B0 R ∧ (∃ s0 c0, s0.length = 32 ∧ RowT W (w.heap.size + 1 + 1) s0 c0) ∧ Below w.heap.size w W ∧ W.heap[D]? = some (.deferred (some [])) ∧ V5.heap.size ≤ W.heap.size)
      (fun i v W => match i with
        | 0 => v = .agg (trC s c')
        | 1 => v = .map (some B0)
        | 2 => OwZ W V5.heap.size v n (R.map fun x : Nat => (x : Int))
        | 3 => RowT W (w.heap.size + 1 + 1) s c'
        | _ => OwZ W V5.heap.size v n (R.map fun x : Nat => (x : Int))) (by kernel_rfl) (lexOK_of (by kernel_rfl) (by kernel_rfl)) (by kernel_rfl) (by kernel_rfl) (by kernel_rfl)
      ⟨q8, q9, hm, ⟨_, _, List.length_replicate, q6⟩, qb.drew, qd, qs⟩ ?obl ?fin2
    case obl =>
      refine ⟨fun vs W hI hF => ?_, fun vs W hI hF => ?_, fun vs W hI hF => ?_, fun vs W hI hF => ?_, fun vs W hI hF => ?_, trivial⟩
      · (try simp only [Nat.zero_add, Nat.reduceAdd, Act.put, List.setIfInBounds_toArray, List.set_cons_zero, List.set_cons_succ])
        unfold hOp
        rw [exec_loadT g8 s c' hl hI.1 rfl rfl]
        exact ⟨hI, rfl, fun j u _ h => h⟩
      · simp only [Nat.zero_add, Nat.reduceAdd, Act.put, List.setIfInBounds_toArray, List.set_cons_zero, List.set_cons_succ]
        unfold hOp
        rw [exec_loadV ⟨g9, 0, none⟩ B0 hI.2.1.c rfl rfl]
        exact ⟨hI, rfl, fun j u _ h => h⟩
      · simp only [Nat.zero_add, Nat.reduceAdd, Act.put, List.setIfInBounds_toArray, List.set_cons_zero, List.set_cons_succ]
        have h1 : vs 1 = .map (some B0) := hF 1 (by kernel_rfl)
        refine hOp_call 60 Tryd.func60 (by kernel_rfl) (by kernel_rfl) _ _ #[.map (some B0)] rfl (by simp [Act.eval, h1]) ?_
        obtain ⟨i1, i2, i3, ⟨s0, c0, hs0, i4⟩, i5, i6, i7⟩ := hI
        refine (increasing_any' B0 R W i3).mono ?_
        rintro e W' ⟨v, rfl, ho, hb⟩
        rw [hRn] at ho
        refine ⟨v, rfl, ⟨i1.keep hb, i2.keep hb, i3.keep hb, ⟨s0, c0, hs0, i4.keep hb⟩, bel_step i5 hb, heap_keep i6 hb, Nat.le_trans i7 hb.size⟩, ho.mono i7, fun j u hj h => ?_⟩
        match j, hj, h with
        | 0, _, h => exact h
        | 1, _, h => exact h
        | 3, _, h => exact RowT.keep h hb
        | j + 4, _, h => exact OwZ.keep h hb
      · simp only [Nat.zero_add, Nat.reduceAdd, Act.put, List.setIfInBounds_toArray, List.set_cons_zero, List.set_cons_succ]
        have h0 : vs 0 = .agg (trC s c') := hF 0 (by kernel_rfl)
        obtain ⟨i1, i2, i3, ⟨s0, c0, hs0, i4⟩, i5, i6, i7⟩ := hI
        unfold hOp
        rw [exec_storeT (x := .tmp 6) (y := .tmp 27) (w.heap.size + 1 + 1) s0 c0 s c' hs0 hl i4 rfl rfl (by rw [h0]; rfl)]
        refine ⟨⟨heap_farRow i1 (by omega) _, heap_farRow i2 (by omega) _, i3.same (by simp [World.setRow, Array.getElem?_modify, show w.heap.size + 1 + 1 ≠ B0 by omega]), ⟨_, _, hl, i4.row s c'⟩, bel_setRow i5 (by omega) _, heap_farRow i6 (by omega) _, by simpa [World.setRow] using i7⟩, i4.row s c', fun j u hj h => ?_⟩
        match j, hj, h with
        | 0, _, h => exact h
        | 1, _, h => exact h
        | 2, _, h => exact OwZ.same h (fun g cs hg h0 => heap_farRow h0 (by omega) _)
        | j + 4, _, h => exact OwZ.same h (fun g cs hg h0 => heap_farRow h0 (by omega) _)
      · simp only [Nat.zero_add, Nat.reduceAdd, Act.put, List.setIfInBounds_toArray, List.set_cons_zero, List.set_cons_succ]
        have h2 : OwZ W V5.heap.size (vs 2) n (R.map fun x : Nat => (x : Int)) := hF 2 (by kernel_rfl)
        unfold hOp
        exact ⟨hI, h2, fun j u _ h => h⟩
    case fin2 =>
      intro vs W hI hF
      have h3 := hF 3 (by decide)
      have h4 := hF 4 (by decide)
      obtain ⟨_, _, _, _, i5, i6, _⟩ := hI
      clear hF
      simp only [putsT, Nat.zero_add, Nat.reduceAdd, Act.put, List.setIfInBounds_toArray, List.set_cons_zero, List.set_cons_succ]
      generalize vs 0 = v0, vs 1 = v1, vs 2 = v2, vs 3 = v3, vs 4 = v4 at *
      go_wp2_with fail
      refine ⟨by simp, .inl ⟨_, _, rfl, run_takeDeferred i6, ?_⟩⟩
      refine ⟨.tuple #[.agg (trC s c'), v4], ?_, ⟨v4, rfl, ?_, ?_⟩⟩
      · exact results_row_tmp rfl _ _ (w.heap.size + 1 + 1) 32 _ (0, 0) _ _ rfl rfl ((World.putObj_heap_other (by omega)).trans h3) Tryd.underlying32 rfl (trC_info hl c')
      · exact OwZ.mono (OwZ.same h4 (fun g cs hg h0 => (World.putObj_heap_other (fun e => by rw [e, i6] at h0; cases h0)).trans h0)) (by omega)
      · exact i5.trans ⟨rfl, rfl, rfl, by simp, fun k hk => World.putObj_heap_other (by omega)⟩
end Go.Proofs.YtcaoajeplinopaaDoor

