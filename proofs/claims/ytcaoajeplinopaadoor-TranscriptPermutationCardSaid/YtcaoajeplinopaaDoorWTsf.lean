/- A law of stage 10: Permutation. -/
import Derived.Test.YtcaoajeplinopaaDoorH14
namespace Go.Proofs.YtcaoajeplinopaaDoor
set_option linter.unusedVariables false
set_option linter.unusedSimpArgs false
set_option maxRecDepth 8000
open Go.RowKit Gold
open Go.Shelf
attribute [local simp] z32_ne z32_run
attribute [-simp] Tryd.zeroValue30 Tryd.isAgg30 Tryd.sizeOf30
attribute [-simp] Tryd.zeroValue32 Tryd.isAgg32 Tryd.sizeOf32
attribute [local simp] z33_ne z33_run
attribute [local irreducible] wpList
section
variable {P : Program} {Q : Exit → Act → World → Prop} {ops : Array Oper}
/-- two new variables, an assignment between their first stores -/
theorem wpList_decl2a {rest : List Oper} {o1 o2 o3 oA o4 : Oper} {a : Act} {w : World} (z1 z2 row1 row2 : Array Value) (u : Value) (t1 t2 : TypeId) (hw1 : Region.wanted o1 (yielded ops a.tmps) = true) (hr1 : ∀ W, (execOp a.eval o1).run P W = .ok (.value (ptr W.heap.size)) (W.alloc (.cells z1 t1)))
    (hw2 : ∀ b, Region.wanted o2 (yielded ops (a.put o1.dst (ptr b)).tmps) = true) (hr2 : ∀ b W, (execOp (a.put o1.dst (ptr b)).eval o2).run P W = .ok (.value (ptr W.heap.size)) (W.alloc (.cells z2 t2)))
    (hw3 : ∀ b c, Region.wanted o3 (yielded ops ((a.put o1.dst (ptr b)).put o2.dst (ptr c)).tmps) = true) (hs3 : ∀ b c W, W.heap[b]? = some (.cells z1 t1 (0, 0)) → (execOp ((a.put o1.dst (ptr b)).put o2.dst (ptr c)).eval o3).run P W = .ok .skip (W.setRow b row1))
    (hwA : ∀ b c, Region.wanted oA (yielded ops (((a.put o1.dst (ptr b)).put o2.dst (ptr c)).put o3.dst undef).tmps) = true) (hA : ∀ b c W, (execOp (((a.put o1.dst (ptr b)).put o2.dst (ptr c)).put o3.dst undef).eval oA).run P W = .ok (.value u) W)
    (hw4 : ∀ b c, Region.wanted o4 (yielded ops ((((a.put o1.dst (ptr b)).put o2.dst (ptr c)).put o3.dst undef).put oA.dst u).tmps) = true) (hs4 : ∀ b c W, W.heap[c]? = some (.cells z2 t2 (0, 0)) → (execOp ((((a.put o1.dst (ptr b)).put o2.dst (ptr c)).put o3.dst undef).put oA.dst u).eval o4).run P W = .ok .skip (W.setRow c row2))
    (h : ∀ b c W, w.heap.size ≤ b → b < c → W.heap[b]? = some (.cells row1 t1 (0, 0)) → W.heap[c]? = some (.cells row2 t2 (0, 0)) → Below w.heap.size w W → wpList P ops Q rest (((((a.put o1.dst (ptr b)).put o2.dst (ptr c)).put o3.dst undef).put oA.dst u).put o4.dst undef) W) : wpList P ops Q (o1 :: o2 :: o3 :: oA :: o4 :: rest) a w := by
  have row : ∀ (W : World) (g : Nat) (z r : Array Value) (t : TypeId), W.heap[g]? = some (.cells z t (0, 0)) → (W.setRow g r).heap[g]? = some (.cells r t (0, 0)) := fun W g z r t h0 => by simp [World.setRow, Array.getElem?_modify, h0]
  refine wpList_run hw1 _ _ (hr1 w) ?_
  refine wpList_run (hw2 _) _ _ (hr2 w.heap.size _) ?_
  have hsz : (w.alloc (.cells z1 t1)).heap.size = w.heap.size + 1 := by simp
  rw [hsz]
  have g1 : ((w.alloc (.cells z1 t1)).alloc (.cells z2 t2)).heap[w.heap.size]? = some (.cells z1 t1 (0, 0)) := heap_old _ (heap_new w _)
  have g2 : ((w.alloc (.cells z1 t1)).alloc (.cells z2 t2)).heap[w.heap.size + 1]? = some (.cells z2 t2 (0, 0)) := by simpa using heap_new (w.alloc (.cells z1 t1)) (.cells z2 t2)
  refine wpList_run0 (hw3 _ _) _ (hs3 w.heap.size (w.heap.size + 1) _ g1) ?_
  refine wpList_run (hwA _ _) u _ (hA w.heap.size (w.heap.size + 1) _) ?_
  refine wpList_run0 (hw4 _ _) _ (hs4 w.heap.size (w.heap.size + 1) _ (heap_farRow g2 (by omega) _)) ?_
  refine h _ _ _ (Nat.le_refl _) (by omega) (heap_farRow (row _ _ _ _ _ g1) (by omega) _) (row _ _ _ _ _ (heap_farRow g2 (by omega) _)) ?_
  exact bel_setRow (bel_setRow (((Below.refl _ _).alloc (Nat.le_refl _) _).alloc (by simp) _) (Nat.le_refl _) _) (by omega) _
end
section
variable {ev : Operand → Value} {o : Oper}
theorem exec_cvt8I {x : Operand} (n : Nat) (hn : n < 256) (ho : o.op = .convert 5 3 x) (hx : ev x = .int .u8 (n : Int)) (w : World) : (execOp ev o).run Tryd.prog w = .ok (.value (.int .i64 (n : Int))) w := by
  have h : IntKind.i64.wrap (n : Int) = (n : Int) := by rw [IntKind.wrap_i64]; omega
  unfold execOp
  simp only [ho, hx]
  go_simp
theorem exec_remI {x y : Operand} {t : TypeId} (a b : Nat) (hb : 1 ≤ b) (ha : a < 9223372036854775808) (ho : o.op = .binOp .rem 3 x y t) (hx : ev x = .int .i64 (a : Int)) (hy : ev y = .int .i64 (b : Int)) (w : World) :
    (execOp ev o).run Tryd.prog w = .ok (.value (.int .i64 ((a % b : Nat) : Int))) w := by
  have h1 : (b : Int) ≠ 0 := by omega
  have h2 : (a : Int).tmod (b : Int) = ((a % b : Nat) : Int) := by rw [Int.tmod_eq_emod_of_nonneg (by omega)]; simp
  have h4 : a % b ≤ a := Nat.mod_le _ _
  have h3 : IntKind.i64.wrap ((a % b : Nat) : Int) = ((a % b : Nat) : Int) := by rw [IntKind.wrap_i64]; omega
  unfold execOp
  simp only [ho, hx, hy]
  go_simp
  try omega
theorem exec_addI {x y : Operand} {t : TypeId} (a b : Nat) (ha : a + b < 9223372036854775808) (ho : o.op = .binOp .add 3 x y t) (hx : ev x = .int .i64 (a : Int)) (hy : ev y = .int .i64 (b : Int)) (w : World) :
    (execOp ev o).run Tryd.prog w = .ok (.value (.int .i64 ((a + b : Nat) : Int))) w := by
  have h3 : IntKind.i64.wrap ((a : Int) + (b : Int)) = (a : Int) + (b : Int) := by rw [IntKind.wrap_i64]; omega
  unfold execOp
  simp only [ho, hx, hy]
  go_simp
  try omega
end
set_option maxRecDepth 100000 in
set_option maxHeartbeats 16000000 in
theorem tPermutation_any (ls : ByteArray) (A1 : Option Addr) (n1 c1 : Nat) (bs : List Nat) (A2 : Option Addr) (n2 c2 : Nat) (xs : List (Nat × Nat)) (A3 : Option Addr) (n3 c3 : Nat) (is : List Int) (A4 : Option Addr) (n4 c4 : Nat) (st : List Nat) (cnt nn : Nat) (w : World)
    (hS1 : Sb w A1 n1 c1 bs) (hS2 : XbT w A2 n2 c2 xs) (hS3 : Ib w A3 n3 c3 is) (hS4 : Sb w A4 n4 c4 st) (hc : cnt < 18446744073709551616) (hnn : nn < 256) (hG : Gl w) :
    Calls Tryd.prog 9 #[.agg #[.string ls, .slice A1 n1 c1, .slice A2 n2 c2, .slice A3 n3 c3, .slice A4 n4 c4, .int .u64 (cnt : Int)], .int .u8 (nn : Int)] w fun e w' => e = .returned (.bool true) ∧ Below w.heap.size w w' := by
  obtain ⟨s, hs⟩ : ∃ s, madeN st = s := ⟨_, rfl⟩
  have hl : s.length = 32 := by rw [← hs]; exact madeN_length _
  have HSB := Lib.hid (show ∀ x ∈ s, x < 256 by rw [← hs]; exact madeN_lt hS4.byte)
  have HS := Lib.hid hs
  have HS1 := Lib.hid hS1
  have HS2 := Lib.hid hS2
  have HS3 := Lib.hid hS3
  have HS4 := Lib.hid hS4
  have HG := Lib.hid hG
  clear hs hS1 hS2 hS3 hS4 hG
  go_enter Tryd.func9, Tryd.ntmps9
  go_upto_region 1 with fail
  refine wp_named1 (fun V1 hb g0 hlt => ?_)
  have B0 := Lib.hid hb
  have F2 : Hid (V1.heap[w.heap.size]? = some (.cells #[.string ls, .slice A1 n1 c1, .slice A2 n2 c2, .slice A3 n3 c3, .slice A4 n4 c4, .int .u64 (cnt : Int)] 27 (0, 0))) := Lib.hid g0
  clear hb g0 hlt
  refine wp_region_lit ?_
  refine wpList_call (by kernel_rfl) 11 Tryd.func11 (by kernel_rfl) (by kernel_rfl) _ _ #[] rfl (by kernel_rfl) ?_
  refine (sanity10_any V1 (HG.out.keep B0.out)).mono ?_
  rintro e V2 ⟨rfl, hb⟩
  have B1 := Lib.hid hb
  clear hb 
  refine ⟨_, rfl, ?_⟩
  simp only [ptr, Act.put, List.setIfInBounds_toArray, List.set_cons_zero, List.set_cons_succ]
  refine wpList_run (by kernel_rfl) (.bool true) V2 rfl ?_
  simp only [ptr, Act.put, List.setIfInBounds_toArray, List.set_cons_zero, List.set_cons_succ]
  refine wpList_nil ?_
  go_upto_region 2 with fail
  refine wp_region_lit ?_
  refine wpList_run (by kernel_rfl) (.agg #[.string ls, .slice A1 n1 c1, .slice A2 n2 c2, .slice A3 n3 c3, .slice A4 n4 c4, .int .u64 (cnt : Int)]) V2 (exec_loadN w.heap.size _ rfl (heap_keep F2.out B1.out) rfl rfl) ?_
  simp only [ptr, Act.put, List.setIfInBounds_toArray, List.set_cons_zero, List.set_cons_succ]
  refine wpList_call (by kernel_rfl) 12 Tryd.func12 (by kernel_rfl) (by kernel_rfl) _ _ #[.agg #[.string ls, .slice A1 n1 c1, .slice A2 n2 c2, .slice A3 n3 c3, .slice A4 n4 c4, .int .u64 (cnt : Int)]] rfl (by kernel_rfl) ?_
  refine (made10_any ls A1 n1 c1 bs A2 n2 c2 xs A3 n3 c3 is A4 n4 c4 st cnt V2 (HS1.out.keep (bel_step B0.out B1.out)) (HS2.out.keep (bel_step B0.out B1.out)) (HS3.out.keep (bel_step B0.out B1.out)) (HS4.out.keep (bel_step B0.out B1.out)) hc s HS.out).mono ?_
  rintro e V3 ⟨lb, v, rfl, hlb, hox, hb⟩
  have B2 := Lib.hid hb
  obtain ⟨A5, c5, rfl⟩ := hox.form
  have OX := Lib.hid hox
  clear hb hox
  refine ⟨_, rfl, ?_⟩
  simp only [ptr, Act.put, List.setIfInBounds_toArray, List.set_cons_zero, List.set_cons_succ]
  refine wpList_run (by kernel_rfl) (.tuple #[.agg (trC s cnt), .string lb, .agg #[.string ByteArray.empty, .slice A1 (min n1 200) c1, .slice A5 (min n2 12) c5, .slice A3 (min n3 12) c3, .slice none 0 0, .int .u64 0]]) V3 rfl ?_
  simp only [ptr, Act.put, List.setIfInBounds_toArray, List.set_cons_zero, List.set_cons_succ]
  refine wpList_run (by kernel_rfl) (.agg (trC s cnt)) V3 rfl ?_
  simp only [ptr, Act.put, List.setIfInBounds_toArray, List.set_cons_zero, List.set_cons_succ]
  refine wpList_run (by kernel_rfl) (.string lb) V3 rfl ?_
  simp only [ptr, Act.put, List.setIfInBounds_toArray, List.set_cons_zero, List.set_cons_succ]
  refine wpList_run (by kernel_rfl) (.agg #[.string ByteArray.empty, .slice A1 (min n1 200) c1, .slice A5 (min n2 12) c5, .slice A3 (min n3 12) c3, .slice none 0 0, .int .u64 0]) V3 rfl ?_
  simp only [ptr, Act.put, List.setIfInBounds_toArray, List.set_cons_zero, List.set_cons_succ]
  refine wpList_decl2a z33 _ (trC s cnt) #[.string ByteArray.empty, .slice A1 (min n1 200) c1, .slice A5 (min n2 12) c5, .slice A3 (min n3 12) c3, .slice none 0 0, .int .u64 0] (.string lb) 32 27 (by kernel_rfl) (fun W => exec_allocT W rfl) (fun _ => by kernel_rfl) (fun _ W => exec_allocN rfl W) (fun _ _ => by kernel_rfl) (fun b d W h0 => exec_storeT b (List.replicate 32 0) 0 s cnt List.length_replicate hl h0 rfl rfl rfl) (fun _ _ => by kernel_rfl) (fun _ _ W => rfl) (fun _ _ => by kernel_rfl) (fun b d W h0 => exec_storeRow (P := Tryd.prog) d _ #[.string ByteArray.empty, .slice A1 (min n1 200) c1, .slice A5 (min n2 12) c5, .slice A3 (min n3 12) c3, .slice none 0 0, .int .u64 0] rfl rfl rfl h0 (by kernel_rfl) rfl (by simp [Value.oneCell'])) ?_
  intro b6 b8 V4 hge hlt h1 h2 hb
  have B3 := Lib.hid hb
  have T6 : Hid (RowT V4 b6 s cnt) := Lib.hid h1
  clear hge hlt h1 h2 hb
  simp only [ptr, Act.put, List.setIfInBounds_toArray, List.set_cons_zero, List.set_cons_succ]
  refine wpList_nil ?_
  go_upto_region 3 with fail
  refine wp_region_lit ?_
  refine wpList_run (by kernel_rfl) (.int .u8 (nn : Int)) V4 rfl ?_
  simp only [ptr, Act.put, List.setIfInBounds_toArray, List.set_cons_zero, List.set_cons_succ]
  refine wpList_run (by kernel_rfl) (.int .i64 (nn : Int)) V4 (exec_cvt8I nn (by omega) rfl rfl V4) ?_
  simp only [ptr, Act.put, List.setIfInBounds_toArray, List.set_cons_zero, List.set_cons_succ]
  refine wpList_run (by kernel_rfl) (.int .i64 ((nn % 64 : Nat) : Int)) V4 (exec_remI nn 64 (by omega) (by omega) rfl rfl rfl V4) ?_
  simp only [ptr, Act.put, List.setIfInBounds_toArray, List.set_cons_zero, List.set_cons_succ]
  refine wpList_run (by kernel_rfl) (.int .i64 ((1 + nn % 64 : Nat) : Int)) V4 (exec_addI 1 (nn % 64) (by omega) rfl rfl rfl V4) ?_
  simp only [ptr, Act.put, List.setIfInBounds_toArray, List.set_cons_zero, List.set_cons_succ]
  refine wpList_run (by kernel_rfl) (.int .i64 ((1 + nn % 64 : Nat) : Int)) V4 rfl ?_
  simp only [ptr, Act.put, List.setIfInBounds_toArray, List.set_cons_zero, List.set_cons_succ]
  refine wpList_nil ?_
  obtain ⟨m, hm⟩ : ∃ m, 1 + nn % 64 = m := ⟨_, rfl⟩
  rw [hm]
  have hm1 : 1 ≤ m := by omega
  have hm2 : m ≤ 64 := by omega
  clear hm
  go_upto_region 4 with fail
  refine wp_region_lit ?_
  refine wpList_run (by kernel_rfl) (.agg (trC s cnt)) V4 (exec_loadT b6 s cnt hl T6.out rfl rfl) ?_
  simp only [ptr, Act.put, List.setIfInBounds_toArray, List.set_cons_zero, List.set_cons_succ]
  refine wpList_run (by kernel_rfl) (.string lb) V4 rfl ?_
  simp only [ptr, Act.put, List.setIfInBounds_toArray, List.set_cons_zero, List.set_cons_succ]
  refine wpList_run (by kernel_rfl) (.int .i64 (m : Int)) V4 rfl ?_
  simp only [ptr, Act.put, List.setIfInBounds_toArray, List.set_cons_zero, List.set_cons_succ]
  refine wpList_run (by kernel_rfl) (.int .i64 (m : Int)) V4 rfl ?_
  simp only [ptr, Act.put, List.setIfInBounds_toArray, List.set_cons_zero, List.set_cons_succ]
  refine wpList_run (by kernel_rfl) (.agg #[.int .i64 (m : Int), .int .i64 (m : Int)]) V4 (exec_buildDr2 _ _ rfl rfl rfl V4) ?_
  simp only [ptr, Act.put, List.setIfInBounds_toArray, List.set_cons_zero, List.set_cons_succ]
  refine wpList_call (by kernel_rfl) 26 Tryd.func26 (by kernel_rfl) (by kernel_rfl) _ _ #[.agg (trC s cnt), .string lb, .agg #[.int .i64 (m : Int), .int .i64 (m : Int)]] rfl (by kernel_rfl) ?_
  refine (indices_any s cnt lb m m hl HSB.out hc (by omega) hm1 (by omega) hm1 hm2 (Nat.le_refl _) V4 (HG.out.keep (bel_step B0.out (bel_step B1.out (bel_step B2.out B3.out)))) (cdF s lb cnt m) rfl _ rfl _ rfl _ _ rfl rfl).mono ?_
  rintro e V5 ⟨v, rfl, ho, hb⟩
  have B4 := Lib.hid hb
  obtain ⟨A, c, rfl, _⟩ := ho.ib
  have O := Lib.hid ho
  clear hb ho
  refine ⟨_, rfl, ?_⟩
  simp only [ptr, Act.put, List.setIfInBounds_toArray, List.set_cons_zero, List.set_cons_succ]
  generalize lastC cnt (stopT (cdF s lb cnt m) m 16384) = c' at *
  refine wpList_run (by kernel_rfl) (.tuple #[.agg (trC s c'), .slice A m c]) V5 rfl ?_
  simp only [ptr, Act.put, List.setIfInBounds_toArray, List.set_cons_zero, List.set_cons_succ]
  refine wpList_run (by kernel_rfl) (.agg (trC s c')) V5 rfl ?_
  simp only [ptr, Act.put, List.setIfInBounds_toArray, List.set_cons_zero, List.set_cons_succ]
  refine wpList_run (by kernel_rfl) (.slice A m c) V5 rfl ?_
  simp only [ptr, Act.put, List.setIfInBounds_toArray, List.set_cons_zero, List.set_cons_succ]
  refine wpList_decl z33 (trC s c') 32 (by kernel_rfl) (exec_allocT V5 rfl) (fun _ => by kernel_rfl) (fun b W h0 => exec_storeT b (List.replicate 32 0) 0 s c' List.length_replicate hl h0 rfl rfl rfl) ?_
  intro b10 V6 hge h1 hb
  have B5 := Lib.hid hb
  have T10 : Hid (RowT V6 b10 s c') := Lib.hid h1
  clear hge h1 hb
  simp only [ptr, Act.put, List.setIfInBounds_toArray, List.set_cons_zero, List.set_cons_succ]
  refine wpList_run (by kernel_rfl) (.slice A m c) V6 rfl ?_
  simp only [ptr, Act.put, List.setIfInBounds_toArray, List.set_cons_zero, List.set_cons_succ]
  refine wpList_nil ?_
  have HI := Lib.hid (O.out.keep B5.out).ib'
  have hcap := HI.out.cap
  have htop := HI.out.top
  have HB : Hid (Below w.heap.size w V6) := Lib.hid (bel_step B0.out (bel_step B1.out (bel_step B2.out (bel_step B3.out (bel_step B4.out B5.out)))))
  generalize V6 = U at *
  go_wp2_with fail
  go_loopw [12] (fun s wr => ∃ i : Nat, i ≤ m ∧ s = .int .i64 i ∧ wr = U) (fun s _ => m - (intOf s).toNat)
  case atStart => exact ⟨0, Nat.zero_le _, rfl, rfl⟩
  case round =>
    obtain ⟨i, hi, rfl, rfl⟩ := hrel
    by_cases hlt : i < m
    · have hk1 : (i : Int) < (m : Int) := by omega
      have hk0 : (0 : Int) ≤ (i : Int) := by omega
      obtain ⟨ad, rfl⟩ := HI.out.some_ (by omega)
      have c0 := HI.out.at_ hlt
      have hv : ((pickT (cdF s lb cnt m) m m 16384).map fun x : Nat => (x : Int)).getD i 0 = (i : Int) := by
        have hlen : (pickT (cdF s lb cnt m) m m 16384).length = m := pickT_length (Nat.le_refl _)
        have h1 : (pickT (cdF s lb cnt m) m m 16384)[i]? = some ((pickT (cdF s lb cnt m) m m 16384)[i]'(by omega)) := List.getElem?_eq_getElem _
        rw [List.getD_eq_getElem?_getD, List.getElem?_map, h1, pickT_all (fun j => Nat.mod_lt _ (by omega)) h1]
        rfl
      rw [hv] at c0
      clear hv
      go_wp2_with fail
      go_roundw
      case rel => exact ⟨i + 1, by omega, by go_num, by first | trivial | rfl⟩
      case measure => simp [intOf]; omega
    · obtain rfl : i = m := by omega
      go_wp2_with fail
      go_ret
      exact ⟨rfl, HB.out⟩
end Go.Proofs.YtcaoajeplinopaaDoor
