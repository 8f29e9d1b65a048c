/- Rows of bytes; the digest of a chain. -/
import Derived.Test.YtliflbelhogopaaDoorSha4
import Derived.Laws.Shifts
namespace Go.Proofs.YtliflbelhogopaaDoor
set_option maxRecDepth 8000
open Go.RowKit
def celB (ws : List Nat) : List Value := ws.map fun x : Nat => .int .u8 (x : Int)
theorem celB_length (ws : List Nat) : (celB ws).length = ws.length := by unfold celB; simp
theorem celB_get {ws : List Nat} {i x : Nat} (h : ws[i]? = some x) : (celB ws)[i]? = some (.int .u8 (x : Int)) := by unfold celB; simp [h]
theorem celB_one {ws : List Nat} : (celB ws).toArray.all (·.oneCell') = true := by
  rw [List.all_toArray, List.all_eq_true]
  intro u hu
  unfold celB at hu
  obtain ⟨x, _, rfl⟩ := List.mem_map.1 hu
  rfl
/-- block g, of type t, holds just the bytes ws -/
def RowB (w : World) (t g : Nat) (ws : List Nat) : Prop := w.heap[g]? = some (.cells (celB ws).toArray t (0, 0))
section
variable {w w' : World} {t g : Nat} {ws : List Nat}
theorem RowB.lt (h : RowB w t g ws) : g < w.heap.size := (Array.getElem?_eq_some_iff.1 h).1
theorem RowB.keep (h : RowB w t g ws) (hb : Below w.heap.size w w') : RowB w' t g ws := (hb.block g h.lt).trans h
theorem RowB.same (h : RowB w t g ws) (e : w'.heap[g]? = w.heap[g]?) : RowB w' t g ws := e.trans h
theorem RowB.at_ {i x : Nat} (h : RowB w t g ws) (hx : ws[i]? = some x) : w.cell? ⟨g, i, none⟩ = some (.int .u8 (x : Int)) := by
  unfold RowB at h
  simpa [World.cell?, h] using celB_get hx
theorem RowB.free (h : RowB w t g ws) (k : Nat) : w.frozen? ⟨g, k, none⟩ = false := by
  unfold RowB at h
  simp [World.frozen?, h]
theorem RowB.set (h : RowB w t g ws) (i x : Nat) : RowB (w.setCell ⟨g, i, none⟩ (.int .u8 (x : Int))) t g (ws.set i x) := by
  have h1 := heap_setCell_at (i := i) h (.int .u8 (x : Int))
  unfold RowB
  rw [h1]
  unfold celB
  rw [List.map_set]
  simp
theorem RowB.far (h : RowB w t g ws) {a : Addr} (x : Value) (e : g ≠ a.block) : RowB (w.setCell a x) t g ws := (Below.heap_setCell w a x g e).trans h
theorem RowB.new (w : World) (t : Nat) (ws : List Nat) : RowB (w.alloc (.cells (celB ws).toArray t)) t w.heap.size ws := heap_alloc_last w _
theorem RowB.new1 (w : World) (t : Nat) (ws : List Nat) (e : w.heap.size = g) : RowB (w.alloc (.cells (celB ws).toArray t)) t g ws := e ▸ RowB.new w t ws
theorem RowB.alloc (h : RowB w t g ws) (o : Obj) : RowB (w.alloc o) t g ws := (Below.heap_alloc w o g h.lt).trans h
end
/-! ### whole rows, loaded and stored -/
theorem run_loadB {P : Program} {w : World} {t g : Nat} {ws : List Nat} (h : RowB w t g ws) (n : Nat) (hl : ws.length = n) :
    (loadCellsFrom ⟨g, 0, none⟩ 0 n #[]).run P w = .ok (celB ws).toArray w := by
  subst hl
  have := run_loadCells_list (P := P) w ⟨g, 0, none⟩ (celB ws) (fun j v hv => by
    have hadd : (⟨g, 0, none⟩ : Addr).add j = ⟨g, j, none⟩ := by unfold Addr.add; split <;> simp_all
    rw [hadd, cell_of_row _ _ j _ t (0, 0) h]
    simpa using hv)
  rw [celB_length] at this
  simpa [loadCells] using this
theorem run_storeB {P : Program} {w : World} {t g : Nat} {old ws : List Nat} (h : RowB w t g old) (hl : old.length = ws.length) :
    (storeCells ⟨g, 0, none⟩ (celB ws) 0).run P w = .ok () (w.setRow g (celB ws).toArray) := by
  have := run_storeCells_from (P := P) g t (celB ws) 0 (celB old).toArray w h (by simp [celB_length]; omega) (fun v hv => (Array.all_eq_true_iff_forall_mem.1 (celB_one (ws := ws))) v (by simpa using hv))
  simpa using this
theorem RowB.row {w : World} {t g : Nat} {old : List Nat} (h : RowB w t g old) (ws : List Nat) : RowB (w.setRow g (celB ws).toArray) t g ws := by
  unfold RowB at *
  simp [World.setRow, Array.getElem?_modify, h]
theorem RowB.farRow {w : World} {t g k : Nat} {ws : List Nat} (h : RowB w t g ws) (e : g ≠ k) (cs : Array Value) : RowB (w.setRow k cs) t g ws := by
  unfold RowB at *
  simp [World.setRow, Array.getElem?_modify, h, Ne.symm e]
theorem RowB.put {w : World} {t g : Nat} {ws : List Nat} (h : RowB w t g ws) (i : Nat) (v : Int) (x : Nat) (e : v = (x : Int)) : RowB (w.setCell ⟨g, i, none⟩ (.int .u8 v)) t g (ws.set i x) := by
  rw [e]; exact h.set i x

theorem set_midB {l : List Nat} {n N : Nat} (x : Nat) (hl : l.length = n) (hn : n < N) :
    (l ++ List.replicate (N - n) 0).set n x = (l ++ [x]) ++ List.replicate (N - (n + 1)) 0 := set_mid x hl hn
/-- the first n bytes of a digest -/
def digN (s : Ch) (n : Nat) : List Nat := (List.range n).map fun i => (chL s).getD (i / 4) 0 / 2 ^ (24 - i % 4 * 8) % 256
theorem digN_length (s : Ch) (n : Nat) : (digN s n).length = n := by unfold digN; simp
theorem digN_succ (s : Ch) (n : Nat) : digN s (n + 1) = digN s n ++ [(chL s).getD (n / 4) 0 / 2 ^ (24 - n % 4 * 8) % 256] := by
  unfold digN; rw [List.range_succ]; simp
theorem chL_lt {s : Ch} (h : s.Ok) : ∀ x ∈ chL s, x < 4294967296 := by
  obtain ⟨h1, h2, h3, h4, h5, h6, h7, h8⟩ := h
  intro x hx
  simp only [chL, List.mem_cons, List.not_mem_nil, or_false] at hx
  rcases hx with rfl | rfl | rfl | rfl | rfl | rfl | rfl | rfl <;> assumption
attribute [-simp] Tryd.isAgg26 Tryd.sizeOf26
set_option maxHeartbeats 1000000 in
theorem digest_any (s : Ch) (w : World) (hs : s.Ok) :
    Calls Tryd.prog 39 #[.agg (celW (chL s)).toArray] w fun e w' => e = .returned (.agg (celB (digN s 32)).toArray) ∧ Below w.heap.size w w' := by
  go_enter Tryd.func39, Tryd.ntmps39
  go_wp2_with fail
  refine wp_named3 (fun w1 hb1 g0 g1 g2 hlt1 => ?_)
  have HR0 := Lib.hid (show RowW w1 58 w.heap.size (chL s) from g0)
  have hr1 : RowB w1 26 (w.heap.size + 1) (List.replicate 32 0) := g1
  have hr2 : RowB w1 26 (w.heap.size + 1 + 1) (List.replicate 32 0) := g2
  have HR1 := Lib.hid hr1
  have HR2 := Lib.hid hr2
  have HB1 := Lib.hid hb1
  clear g0 g1 g2 hlt1 hr1 hr2 hb1
  have HL := Lib.hid (chL_lt hs)
  go_loopw [5] (fun s0 wr => ∃ i : Nat, i ≤ 32 ∧ s0 = .int .i64 i ∧ RowW wr 58 w.heap.size (chL s) ∧ RowB wr 26 (w.heap.size + 1) (List.replicate 32 0) ∧ RowB wr 26 (w.heap.size + 1 + 1) (digN s i ++ List.replicate (32 - i) 0) ∧ Below w.heap.size w wr) (fun s0 _ => 32 - (intOf s0).toNat)
  case atStart => exact ⟨0, by omega, rfl, HR0.out, HR1.out, HR2.out, HB1.out⟩
  case round =>
    clear HR0 HR1 HR2 HB1
    obtain ⟨i, hi, rfl, hr0, hr1, hr2, hb⟩ := hrel
    have HR0 := Lib.hid hr0
    have HR1 := Lib.hid hr1
    have HR2 := Lib.hid hr2
    have HB := Lib.hid hb
    clear hr0 hr1 hr2 hb
    by_cases hlt : i < 32
    · have hk1 : (i : Int) < 32 := by omega
      have hk0 : (0 : Int) ≤ (i : Int) := by omega
      have c0 := HR0.out.at_ (i := i / 4) (x := (chL s).getD (i / 4) 0) (by rw [List.getD_eq_getElem?_getD, List.getElem?_eq_getElem (by rw [chL_length]; omega)]; rfl)
      have hx := getD_lt HL.out (i / 4)
      have hdg := digN_succ s i
      generalize (chL s).getD (i / 4) 0 = x at *
      have HDG := Lib.hid hdg
      have HX := Lib.hid hx
      clear hdg hx
      have b0 := HR2.out.at_ (i := i) (x := 0) (get_zero (digN_length s i) hlt)
      have b1 := HR2.out.free i
      have e0 : (0 : Int) ≤ (i : Int) / 4 := by omega
      have e1 : (i : Int) / 4 < 8 := by omega
      have e2 : ((i : Int) / 4).toNat = i / 4 := by omega
      have e3 : (0 : Int) ≤ 24 - (i : Int) % 4 * 8 := by omega
      have e4 : (24 - (i : Int) % 4 * 8).toNat = 24 - i % 4 * 8 := by omega
      have e5 : min (24 - i % 4 * 8) 32 = 24 - i % 4 * 8 := by omega
      go_wp2_with fail
      go_roundw
      case rel =>
        refine ⟨i + 1, by omega, by go_num, HR0.out.far _ (by simp; omega), HR1.out.far _ (by simp), ?_, HB.out.setCell (by simp; omega) _⟩
        rw [HDG.out, ← set_midB _ (digN_length s i) (by omega)]
        refine HR2.out.put i _ _ ?_
        rw [Int.natCast_emod, Int.natCast_ediv, Int.natCast_pow]
        rfl
      case measure => simp [intOf]; omega
    · have hkn : i = 32 := by omega
      subst hkn
      have hld := run_loadB (P := Tryd.prog) HR2.out 32 (by simp [digN_length])
      have hsz : (celB (digN s 32)).length = 32 := by rw [celB_length, digN_length]
      have hsc := run_storeB (P := Tryd.prog) (ws := digN s 32) HR1.out (by simp [digN_length])
      go_wp2_with fail
      simp only [Tryd.isAgg26, Tryd.sizeOf26, Result.andThen, ↓reduceIte, hld]
      rw [Oper.upon_value]
      go_wp2_with fail
      simp only [Tryd.sizeOf26, Result.andThen, ↓reduceIte, hsc]
      rw [Oper.upon_skip]
      go_wp2_with fail
      refine bodyPost_ret (v := .agg (celB (digN s 32)).toArray) ?_ rfl ⟨rfl, bel_setRow HB.out (by omega) _⟩
      exact results_cell_row rfl _ _ (w.heap.size + 1) 26 _ (0, 0) _ rfl (HR1.out.row (digN s 32)) Tryd.underlying26 rfl (by rw [show (celB (digN s 32)).toArray.size = 32 by simp [hsz]]; kernel_rfl)
end Go.Proofs.YtliflbelhogopaaDoor
