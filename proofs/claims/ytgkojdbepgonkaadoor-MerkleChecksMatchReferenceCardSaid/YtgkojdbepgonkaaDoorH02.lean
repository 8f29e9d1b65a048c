/- Several texts in one: Sha2, Sha3, Sha4, Sha5, Sha6. -/
import Derived.Test.YtgkojdbepgonkaaDoorH01
import Derived.Deep.QuietTactic
import Derived.BigQuiet
import Derived.Deep.WholeRow
import Derived.Deep.MidRow
import Derived.StillTailTactics
import Derived.Laws.Shifts
/- Contracts of the leaves of package sha256: word. -/
namespace Go.Proofs.YtgkojdbepgonkaaDoor
set_option maxRecDepth 8000
set_option linter.unusedVariables false
set_option linter.unusedSimpArgs false
open Go.RowKit

theorem bel_drewN (B : Nat) (w : World) (n : Nat) : Below B w (w.drewN n) := ⟨rfl, rfl, rfl, Nat.le_refl _, fun _ _ => rfl⟩
theorem word_val (a b c d : Nat) (ha : a < 256) (hb : b < 256) (hc : c < 256) (hd : d < 256) :
    bits .or .u32 (bits .or .u32 (bits .or .u32 ((a : Int) * 16777216) ((b : Int) * 65536)) ((c : Int) * 256)) (d : Int) = ((wordN a b c d : Nat) : Int) := by
  have e1 : a * 16777216 ||| b * 65536 = a * 16777216 + b * 65536 := or_sum a (b * 65536) 24 (by omega)
  have e2 : (a * 16777216 + b * 65536) ||| c * 256 = a * 16777216 + b * 65536 + c * 256 := by
    have h := or_sum (a * 256 + b) (c * 256) 16 (by omega)
    rw [show (a * 256 + b) * 2 ^ 16 = a * 16777216 + b * 65536 by omega] at h
    exact h
  have e3 : (a * 16777216 + b * 65536 + c * 256) ||| d = a * 16777216 + b * 65536 + c * 256 + d := by
    have h := or_sum (a * 65536 + b * 256 + c) d 8 (by omega)
    rw [show (a * 65536 + b * 256 + c) * 2 ^ 8 = a * 16777216 + b * 65536 + c * 256 by omega] at h
    exact h
  have h1 := or32 (a * 16777216) (b * 65536) (by omega) (by omega)
  rw [e1] at h1
  have h2 := or32 (a * 16777216 + b * 65536) (c * 256) (by omega) (by omega)
  rw [e2] at h2
  have h3 := or32 (a * 16777216 + b * 65536 + c * 256) d (by omega) (by omega)
  rw [e3] at h3
  unfold wordN
  rw [← h3, ← h2, ← h1]
  rfl

set_option maxHeartbeats 1000000 in
theorem word_any (ad : Addr) (cp : Nat) (a b c d : Nat) (w : World) (ha : a < 256) (hb : b < 256) (hc : c < 256) (hd : d < 256)
    (c0 : w.cell? ad = some (.int .u8 a)) (c1 : w.cell? (ad.add 1) = some (.int .u8 b)) (c2 : w.cell? (ad.add 2) = some (.int .u8 c)) (c3 : w.cell? (ad.add 3) = some (.int .u8 d)) :
    Calls Tryd.prog 117 #[.slice (some ad) 4 cp] w fun e w' => e = .returned (.int .u32 ((wordN a b c d : Nat) : Int)) ∧ Below w.heap.size w w' := by
  simp [Addr.add] at c1 c2 c3
  go_enter Tryd.func117, Tryd.ntmps117
  go_wp2
  go_quiet (fail)
  go_wp2
  go_ret
  exact ⟨congrArg (fun v => Ending.returned (.int .u32 v)) (word_val a b c d ha hb hc hd), bel_drewN _ _ _⟩
end Go.Proofs.YtgkojdbepgonkaaDoor

/- Rows of words; blocks of bytes; schedule. -/
namespace Go.Proofs.YtgkojdbepgonkaaDoor
set_option linter.unusedVariables false
set_option linter.unusedSimpArgs false
set_option maxRecDepth 8000
open Go.RowKit

theorem bel_step {w W W1 : World} (h : Below w.heap.size w W) (h1 : Below W.heap.size W W1) : Below w.heap.size w W1 := h.trans (h1.mono h.size)
def celW (ws : List Nat) : List Value := ws.map fun x : Nat => .int .u32 (x : Int)
theorem celW_length (ws : List Nat) : (celW ws).length = ws.length := by unfold celW; simp
theorem celW_get {ws : List Nat} {i x : Nat} (h : ws[i]? = some x) : (celW ws)[i]? = some (.int .u32 (x : Int)) := by unfold celW; simp [h]
theorem celW_one {ws : List Nat} : (celW ws).toArray.all (·.oneCell') = true := by
  rw [List.all_toArray, List.all_eq_true]
  intro u hu
  unfold celW at hu
  obtain ⟨x, _, rfl⟩ := List.mem_map.1 hu
  rfl
/-- block g, of type t, holds just the words ws -/
def RowW (w : World) (t g : Nat) (ws : List Nat) : Prop := w.heap[g]? = some (.cells (celW ws).toArray t (0, 0))
section
variable {w w' : World} {t g : Nat} {ws : List Nat}
theorem RowW.lt (h : RowW w t g ws) : g < w.heap.size := (Array.getElem?_eq_some_iff.1 h).1
theorem RowW.keep (h : RowW w t g ws) (hb : Below w.heap.size w w') : RowW w' t g ws := (hb.block g h.lt).trans h
theorem RowW.same (h : RowW w t g ws) (e : w'.heap[g]? = w.heap[g]?) : RowW w' t g ws := e.trans h
theorem RowW.at_ {i x : Nat} (h : RowW w t g ws) (hx : ws[i]? = some x) : w.cell? ⟨g, i, none⟩ = some (.int .u32 (x : Int)) := by
  unfold RowW at h
  simpa [World.cell?, h] using celW_get hx
theorem RowW.free (h : RowW w t g ws) (k : Nat) : w.frozen? ⟨g, k, none⟩ = false := by
  unfold RowW at h
  simp [World.frozen?, h]
theorem RowW.set (h : RowW w t g ws) (i x : Nat) : RowW (w.setCell ⟨g, i, none⟩ (.int .u32 (x : Int))) t g (ws.set i x) := by
  have h1 := heap_setCell_at (i := i) h (.int .u32 (x : Int))
  unfold RowW
  rw [h1]
  unfold celW
  rw [List.map_set]
  simp
theorem RowW.far (h : RowW w t g ws) {a : Addr} (x : Value) (e : g ≠ a.block) : RowW (w.setCell a x) t g ws := (Below.heap_setCell w a x g e).trans h
theorem RowW.new (w : World) (t : Nat) (ws : List Nat) : RowW (w.alloc (.cells (celW ws).toArray t)) t w.heap.size ws := heap_alloc_last w _
theorem RowW.new1 (w : World) (t : Nat) (ws : List Nat) (e : w.heap.size = g) : RowW (w.alloc (.cells (celW ws).toArray t)) t g ws := e ▸ RowW.new w t ws
theorem alloc_sz (w : World) (o : Obj) : (w.alloc o).heap.size = w.heap.size + 1 := by simp
theorem RowW.alloc (h : RowW w t g ws) (o : Obj) : RowW (w.alloc o) t g ws := (Below.heap_alloc w o g h.lt).trans h
end
/-- the sixty-four bytes of a block, from address ad on -/
structure Blk (w : World) (ad : Addr) (bt : Nat → Nat) : Prop where
  byte : ∀ i, bt i < 256
  cell : ∀ i, i < 64 → w.cell? (ad.add i) = some (.int .u8 (bt i : Int))
theorem Blk.keep {w w' : World} {ad : Addr} {bt : Nat → Nat} (h : Blk w ad bt) (hb : Below w.heap.size w w') : Blk w' ad bt :=
  ⟨h.byte, fun i hi => cell_keep (h.cell i hi) hb⟩
theorem ad_add (a : Addr) (i j : Nat) : (a.add i).add j = a.add (i + j) := by
  unfold Addr.add
  by_cases hi : i = 0 <;> by_cases hj : j = 0 <;> simp [hi, hj, Nat.add_assoc]
theorem set_mid {l : List Nat} {n N : Nat} (x : Nat) (hl : l.length = n) (hn : n < N) :
    (l ++ List.replicate (N - n) 0).set n x = (l ++ [x]) ++ List.replicate (N - (n + 1)) 0 := by
  have e : N - n = (N - (n + 1)) + 1 := by omega
  rw [e, List.replicate_succ]
  subst hl
  simp
theorem get_zero {l : List Nat} {n N : Nat} (hl : l.length = n) (hn : n < N) : (l ++ List.replicate (N - n) 0)[n]? = some 0 := by
  have e : N - n = (N - (n + 1)) + 1 := by omega
  rw [e, List.replicate_succ]
  subst hl
  simp
theorem get_mid {l : List Nat} {m i : Nat} (hi : i < l.length) : (l ++ List.replicate m 0)[i]? = some (l.getD i 0) := by
  rw [List.getElem?_append_left hi, List.getD_eq_getElem?_getD, List.getElem?_eq_getElem hi]; rfl
theorem getD_lt {l : List Nat} (h : ∀ x ∈ l, x < 4294967296) (i : Nat) : l.getD i 0 < 4294967296 := by
  rw [List.getD_eq_getElem?_getD]
  cases hx : l[i]? with
  | none => decide
  | some x => exact h x (List.mem_of_getElem? hx)
/-! ### whole rows, loaded and stored -/
theorem run_loadW {P : Program} {w : World} {t g : Nat} {ws : List Nat} (h : RowW w t g ws) (n : Nat) (hl : ws.length = n) :
    (loadCellsFrom ⟨g, 0, none⟩ 0 n #[]).run P w = .ok (celW ws).toArray w := by
  subst hl
  have := run_loadCells_list (P := P) w ⟨g, 0, none⟩ (celW ws) (fun j v hv => by
    have hadd : (⟨g, 0, none⟩ : Addr).add j = ⟨g, j, none⟩ := by unfold Addr.add; split <;> simp_all
    rw [hadd, cell_of_row _ _ j _ t (0, 0) h]
    simpa using hv)
  rw [celW_length] at this
  simpa [loadCells] using this
theorem run_storeW {P : Program} {w : World} {t g : Nat} {old ws : List Nat} (h : RowW w t g old) (hl : old.length = ws.length) :
    (storeCells ⟨g, 0, none⟩ (celW ws) 0).run P w = .ok () (w.setRow g (celW ws).toArray) := by
  have := run_storeCells_from (P := P) g t (celW ws) 0 (celW old).toArray w h (by simp [celW_length]; omega) (fun v hv => (Array.all_eq_true_iff_forall_mem.1 (celW_one (ws := ws))) v (by simpa using hv))
  simpa using this
theorem RowW.row {w : World} {t g : Nat} {old : List Nat} (h : RowW w t g old) (ws : List Nat) : RowW (w.setRow g (celW ws).toArray) t g ws := by
  unfold RowW at *
  simp [World.setRow, Array.getElem?_modify, h]
theorem bel_setRow {B : Nat} {a w : World} (h : Below B a w) {g : Nat} (hg : B ≤ g) (cs : Array Value) : Below B a (w.setRow g cs) :=
  ⟨h.os, h.tape, h.output, by simpa [World.setRow] using h.size, fun k hk => by
    have : k ≠ g := by omega
    simp [World.setRow, Array.getElem?_modify, Ne.symm this]
    exact h.block k hk⟩
theorem RowW.farRow {w : World} {t g k : Nat} {ws : List Nat} (h : RowW w t g ws) (e : g ≠ k) (cs : Array Value) : RowW (w.setRow k cs) t g ws := by
  unfold RowW at *
  simp [World.setRow, Array.getElem?_modify, h, Ne.symm e]
theorem RowW.put {w : World} {t g : Nat} {ws : List Nat} (h : RowW w t g ws) (i : Nat) (v : Int) (x : Nat) (e : v = (x : Int)) : RowW (w.setCell ⟨g, i, none⟩ (.int .u32 v)) t g (ws.set i x) := by
  rw [e]; exact h.set i x
theorem sg0_val {x : Nat} (hx : x < 4294967296) : bits .xor .u32 (bits .xor .u32 ((rotN x 7 : Nat) : Int) ((rotN x 18 : Nat) : Int)) ((x : Int) / 8) = ((sg0 x : Nat) : Int) := by
  rw [xor32 _ _ (rotN_lt hx) (rotN_lt hx)]
  exact xor32 _ (x / 8) (xor_lt (rotN_lt hx) (rotN_lt hx)) (by omega)
theorem sg1_val {x : Nat} (hx : x < 4294967296) : bits .xor .u32 (bits .xor .u32 ((rotN x 17 : Nat) : Int) ((rotN x 19 : Nat) : Int)) ((x : Int) / 1024) = ((sg1 x : Nat) : Int) := by
  rw [xor32 _ _ (rotN_lt hx) (rotN_lt hx)]
  exact xor32 _ (x / 1024) (xor_lt (rotN_lt hx) (rotN_lt hx)) (by omega)
theorem nextW_at {ws : List Nat} {j a b c d : Nat} (hl : ws.length = j + 16) (ha : ws.getD j 0 = a) (hb : ws.getD (j + 1) 0 = b) (hc : ws.getD (j + 9) 0 = c) (hd : ws.getD (j + 14) 0 = d) :
    nextW ws = (a + sg0 b + c + sg1 d) % 4294967296 := by
  unfold nextW
  rw [hl, show j + 16 - 16 = j by omega, show j + 16 - 15 = j + 1 by omega, show j + 16 - 7 = j + 9 by omega, show j + 16 - 2 = j + 14 by omega, ha, hb, hc, hd]
theorem load_agg {P : Program} {w : World} {t g : Nat} {ws : List Nat} (h : RowW w t g ws) (n : Nat) (e : TypeId) (hu : P.underlying t = some (.array n e)) (hi : (P.info? t).map (·.size) = some ws.length) :
    (loadVar t ⟨g, 0, none⟩).run P w = .ok (.agg (celW ws).toArray) w :=
  run_loadVar_row w g t t _ (0, 0) _ h hu rfl (by rw [hi]; simp [celW_length])
attribute [-simp] Tryd.isAgg146 Tryd.sizeOf146
set_option maxHeartbeats 1000000 in
theorem sched_any (ad : Addr) (bt : Nat → Nat) (cp : Nat) (w : World) (hB : Blk w ad bt) (hcp : 64 ≤ cp) (hcm : cp ≤ 9223372036854775807) :
    Calls Tryd.prog 115 #[.slice (some ad) 64 cp] w fun e w' => e = .returned (.agg (celW (schedN bt)).toArray) ∧ Below w.heap.size w w' := by
  have HB0 := Lib.hid hB
  clear hB
  go_enter Tryd.func115, Tryd.ntmps115
  go_wp2_with fail
  go_loopw [10] (fun s wr => ∃ k : Nat, k ≤ 16 ∧ s = .int .i64 k ∧ RowW wr 146 w.heap.size (List.replicate 64 0) ∧ RowW wr 146 (w.heap.size + 1) (headW bt k ++ List.replicate (64 - k) 0) ∧ Below w.heap.size w wr) (fun s _ => 16 - (intOf s).toNat)
  case atStart =>
    exact ⟨0, by omega, rfl, (RowW.new w 146 (List.replicate 64 0)).alloc _, RowW.new1 _ 146 (List.replicate 64 0) (alloc_sz _ _), ((Below.refl _ _).alloc (Nat.le_refl _) _).alloc (by simp) _⟩
  case round =>
    obtain ⟨k, hk, rfl, hr0, hr1, hb⟩ := hrel
    have HR0 := Lib.hid hr0
    have HR1 := Lib.hid hr1
    have HB := Lib.hid hb
    clear hr0 hr1 hb
    by_cases hlt : k < 16
    · have hk1 : (k : Int) < 16 := by omega
      have hk0 : (0 : Int) ≤ (k : Int) := by omega
      go_wp2_with fail
      have hBr := HB0.out.keep HB.out
      have cc : ∀ j, j < 4 → wr.cell? ((ad.add (4 * k)).add j) = some (.int .u8 (bt (4 * k + j) : Int)) := fun j hj => by rw [ad_add]; exact hBr.cell _ (by omega)
      have hwd := word_any (ad.add (4 * k)) (cp - 4 * k) (bt (4 * k)) (bt (4 * k + 1)) (bt (4 * k + 2)) (bt (4 * k + 3)) wr (hBr.byte _) (hBr.byte _) (hBr.byte _) (hBr.byte _) (hBr.cell _ (by omega)) (cc 1 (by omega)) (cc 2 (by omega)) (cc 3 (by omega))
      with_reducible refine hwd.mono ?_
      rintro e W1 ⟨rfl, hb⟩
      have HR2 := Lib.hid (HR0.out.keep hb)
      have HR3 := Lib.hid (HR1.out.keep hb)
      have HB1 := Lib.hid (bel_step HB.out hb)
      have HV : Hid (wordN (bt (4 * k)) (bt (4 * k + 1)) (bt (4 * k + 2)) (bt (4 * k + 3)) < 4294967296) := Lib.hid (wordN_lt (hBr.byte _) (hBr.byte _) (hBr.byte _) (hBr.byte _))
      clear hb hBr cc hwd HR0 HR1 HB
      generalize hv : wordN (bt (4 * k)) (bt (4 * k + 1)) (bt (4 * k + 2)) (bt (4 * k + 3)) = v at *
      have c0 := HR3.out.at_ (i := k) (x := 0) (get_zero (headW_length bt k) (by omega))
      have f0 := HR3.out.free k
      have HvE := Lib.hid hv
      clear hv
      go_wp2_with fail
      go_roundw
      case rel =>
        refine ⟨k + 1, by omega, by go_num, HR2.out.far _ (by simp), ?_, HB1.out.setCell (by simp) _⟩
        rw [headW_succ, ← set_mid _ (headW_length bt k) (by omega), HvE.out]
        exact HR3.out.set k v
      case measure => simp [intOf]; omega
    · have hkn : k = 16 := by omega
      subst hkn
      go_wp2_with fail
      go_loopw [5] (fun s wr => ∃ j : Nat, j ≤ 48 ∧ s = .int .i64 ((j : Int) + 16) ∧ RowW wr 146 w.heap.size (List.replicate 64 0) ∧ RowW wr 146 (w.heap.size + 1) (moreW j (headW bt 16) ++ List.replicate (64 - (j + 16)) 0) ∧ Below w.heap.size w wr) (fun s _ => 64 - (intOf s).toNat)
      case atStart => exact ⟨0, by omega, rfl, HR0.out, HR1.out, HB.out⟩
      case round =>
        clear HR0 HR1 HB
        obtain ⟨j, hj, rfl, hr0, hr1, hb⟩ := hrel
        have HL : Hid ((moreW j (headW bt 16)).length = j + 16) := Lib.hid (by rw [moreW_length, headW_length]; omega)
        have HW : Hid (∀ x ∈ moreW j (headW bt 16), x < 4294967296) := Lib.hid (moreW_lt j _ (headW_lt bt HB0.out.byte 16))
        have hnx := moreW_succ j (headW bt 16)
        obtain ⟨ws, hws⟩ : ∃ ws, ws = moreW j (headW bt 16) := ⟨_, rfl⟩
        rw [← hws] at HL HW hnx hr1
        have HX := Lib.hid hnx
        have HWS := Lib.hid hws.symm
        clear hnx hws
        have HR0 := Lib.hid hr0
        have HR1 := Lib.hid hr1
        have HB := Lib.hid hb
        clear hr0 hr1 hb
        by_cases hlt : j < 48
        · have hk1 : (j : Int) < 48 := by omega
          have hk0 : (0 : Int) ≤ (j : Int) := by omega
          have c16 := HR1.out.at_ (get_mid (m := 64 - (j + 16)) (show j < ws.length by rw [HL.out]; omega))
          have c15 := HR1.out.at_ (get_mid (m := 64 - (j + 16)) (show j + 1 < ws.length by rw [HL.out]; omega))
          have c7 := HR1.out.at_ (get_mid (m := 64 - (j + 16)) (show j + 9 < ws.length by rw [HL.out]; omega))
          have c2 := HR1.out.at_ (get_mid (m := 64 - (j + 16)) (show j + 14 < ws.length by rw [HL.out]; omega))
          have l15 := getD_lt HW.out (j + 1)
          have l2 := getD_lt HW.out (j + 14)
          generalize h16 : ws.getD j 0 = x16 at *
          generalize h15 : ws.getD (j + 1) 0 = x15 at *
          generalize h7 : ws.getD (j + 9) 0 = x7 at *
          generalize h2 : ws.getD (j + 14) 0 = x2 at *
          have HN := Lib.hid (nextW_at HL.out h16 h15 h7 h2)
          clear h16 h15 h7 h2
          have C16 := Lib.hid c16
          have C7 := Lib.hid c7
          have L15 := Lib.hid l15
          have L2 := Lib.hid l2
          clear c16 c7 l15 l2
          go_wp2_with fail
          go_quiet (fail)
          have hb1 : Below wr.heap.size wr (wr.drewN nq) := bel_drewN _ _ _
          have HB1 := Lib.hid hb1
          clear hb1 c15 c2
          generalize wr.drewN nq = w2 at *
          go_wp2_with fail
          with_reducible refine (rotate_7 x15 w2 L15.out).mono ?_
          rintro e W1 ⟨rfl, hb⟩
          have HB2 := Lib.hid (bel_step HB1.out hb)
          clear hb
          go_wp2_with fail
          with_reducible refine (rotate_18 x15 W1 L15.out).mono ?_
          rintro e W2 ⟨rfl, hb⟩
          have HB3 := Lib.hid (bel_step HB2.out hb)
          clear hb
          go_wp2_with fail
          with_reducible refine (rotate_17 x2 W2 L2.out).mono ?_
          rintro e W3 ⟨rfl, hb⟩
          have HB4 := Lib.hid (bel_step HB3.out hb)
          clear hb
          go_wp2_with fail
          with_reducible refine (rotate_19 x2 W3 L2.out).mono ?_
          rintro e W4 ⟨rfl, hb⟩
          have HB5 := Lib.hid (bel_step HB4.out hb)
          clear hb
          go_wp2_with fail
          have HR2 := Lib.hid (HR0.out.keep HB5.out)
          have HR3 := Lib.hid (HR1.out.keep HB5.out)
          have HB6 := Lib.hid (bel_step HB.out HB5.out)
          have e1 := cell_keep C16.out HB5.out
          have e3 := cell_keep C7.out HB5.out
          have c1 : ({ W4 with drawn := W4.drawn + 1 } : World).cell? _ = _ := e1
          have c3 : ({ W4 with drawn := W4.drawn + 1 } : World).cell? _ = _ := e3
          have hw16 : IntKind.i64.wrap (j : Int) = (j : Int) := by rw [IntKind.wrap_i64]; omega
          have hw7 : IntKind.i64.wrap ((j : Int) + 16 - 7) = (j : Int) + 9 := by rw [IntKind.wrap_i64]; omega
          have k1 : (j : Int) < 64 := by omega
          have k2 : (j : Int) + 9 < 64 := by omega
          have k3 : (j : Int) + 16 < 64 := by omega
          have k4 : (0 : Int) ≤ (j : Int) + 9 := by omega
          have k5 : (0 : Int) ≤ (j : Int) + 16 := by omega
          have k6 : ((j : Int) + 9).toNat = j + 9 := by omega
          have k7 : ((j : Int) + 16).toNat = j + 16 := by omega
          refine wp_region_still_tail 15 (by kernel_rfl) (by kernel_rfl) ?_
          simp only [List.take_succ_cons, List.take_zero, List.drop_succ_cons, List.drop_zero]
          repeat still_step
          refine wpStill_nil ?_
          clear c1 c3 e1 e3 hw16 hw7
          have d3 : W4.drew.cell? ⟨w.heap.size + 1, j + 16, none⟩ = _ := HR3.out.at_ (get_zero HL.out (by omega))
          have d4 : W4.drew.frozen? ⟨w.heap.size + 1, j + 16, none⟩ = _ := HR3.out.free (j + 16)
          have HR4 := Lib.hid (show RowW W4.drew 146 w.heap.size (List.replicate 64 0) from HR2.out)
          have HR5 := Lib.hid (show RowW W4.drew 146 (w.heap.size + 1) (ws ++ List.replicate (64 - (j + 16)) 0) from HR3.out)
          have HB7 := Lib.hid (show Below w.heap.size w W4.drew from HB6.out.drew)
          clear HR0 HR1 HR2 HR3 HB HB1 HB2 HB3 HB4 HB5 HB6 C16 C7
          change wpList _ _ _ _ _ W4.drew
          generalize W4.drew = w5 at *
          go_wp2_with fail
          refine ⟨?_, ?measure⟩
          (repeat apply Exists.intro)
          refine ⟨?rel, rfl⟩
          case rel =>
            refine ⟨j + 1, by omega, by go_num, HR4.out.far _ (by simp), ?_, HB7.out.setCell (by simp) _⟩
            rw [HX.out, show j + 1 + 16 = j + 16 + 1 by omega, ← set_mid _ HL.out (by omega)]
            refine HR5.out.put (j + 16) _ _ ?_
            rw [HN.out]
            have q1 := sg0_val L15.out
            have q2 := sg1_val L2.out
            rw [q1, q2]
            have := sg0_lt L15.out
            have := sg1_lt L2.out
            omega
          case measure => simp [intOf]; omega
        · have hkn : j = 48 := by omega
          subst hkn
          go_wp2_with fail
          have hlc := run_loadW (P := Tryd.prog) HR1.out 64 (by simp [HL.out])
          simp only [Tryd.isAgg146, Tryd.sizeOf146, Result.andThen, ↓reduceIte, hlc]
          rw [Oper.upon_value]
          go_wp2_with fail
          have hsc := run_storeW (P := Tryd.prog) (ws := ws) HR0.out (by simp [HL.out])
          have hsz : (celW ws).length = 64 := by rw [celW_length, HL.out]
          simp only [Tryd.sizeOf146, Result.andThen, ↓reduceIte, hsc, hsz]
          rw [Oper.upon_skip]
          go_wp2_with fail
          refine bodyPost_ret (v := .agg (celW ws).toArray) ?_ rfl ⟨?_, bel_setRow HB.out (Nat.le_refl _) _⟩
          · exact results_cell_row rfl _ _ w.heap.size 146 _ (0, 0) _ rfl (HR0.out.row ws) Tryd.underlying146 rfl (by rw [show (celW ws).toArray.size = 64 by simp [hsz]]; kernel_rfl)
          · rw [schedN, HWS.out]
end Go.Proofs.YtgkojdbepgonkaaDoor

/- The compression of a block. -/
namespace Go.Proofs.YtgkojdbepgonkaaDoor
set_option linter.unusedVariables false
set_option linter.unusedSimpArgs false
set_option maxRecDepth 8000
open Go.RowKit
/-- the table of the round constants lies in the program's second variable -/
def KT (w : World) : Prop := ∀ i, i < 64 → w.cell? ⟨1, i, none⟩ = some (.int .u32 (kN.getD i 0 : Nat))
theorem KT.keep {w w' : World} (h : KT w) (hb : Below w.heap.size w w') : KT w' := fun i hi => cell_keep (h i hi) hb
theorem chL_length (s : Ch) : (chL s).length = 8 := rfl
theorem not32 (e : Nat) (he : e < 4294967296) : bits .xor .u32 IntKind.u32.max (e : Int) = ((4294967295 - e : Nat) : Int) := by
  show IntKind.u32.wrap ((BitVec.ofInt 32 (4294967295 : Int) ^^^ BitVec.ofInt 32 (e : Int)).toNat : Int) = _
  rw [show BitVec.ofInt 32 (4294967295 : Int) = BitVec.allOnes 32 from by decide, BitVec.allOnes_xor, BitVec.toNat_not, toN 32 e (by omega), IntKind.wrap_u32]
  omega
theorem three_val {x y z : Nat} (hx : x < 4294967296) (hy : y < 4294967296) (hz : z < 4294967296) : bits .xor .u32 (bits .xor .u32 (x : Int) (y : Int)) (z : Int) = ((x ^^^ y ^^^ z : Nat) : Int) := by
  rw [xor32 _ _ hx hy, xor32 _ _ (xor_lt hx hy) hz]
theorem ch_val {e f g : Nat} (he : e < 4294967296) (hf : f < 4294967296) (hg : g < 4294967296) :
    bits .xor .u32 (bits .and .u32 (e : Int) (f : Int)) (bits .and .u32 (bits .xor .u32 IntKind.u32.max (e : Int)) (g : Int)) = ((chN e f g : Nat) : Int) := by
  rw [not32 e he, and32 _ _ he hf, and32 _ _ (by omega) hg, xor32 _ _ (and_lt hf) (and_lt hg)]
  rfl
theorem maj_val {a b c : Nat} (ha : a < 4294967296) (hb : b < 4294967296) (hc : c < 4294967296) :
    bits .xor .u32 (bits .xor .u32 (bits .and .u32 (a : Int) (b : Int)) (bits .and .u32 (a : Int) (c : Int))) (bits .and .u32 (b : Int) (c : Int)) = ((majN a b c : Nat) : Int) := by
  rw [and32 _ _ ha hb, and32 _ _ ha hc, and32 _ _ hb hc, three_val (and_lt hb) (and_lt hc) (and_lt hc)]
  rfl
theorem add_val (x y : Nat) : ((x : Int) + y) % 4294967296 = (((x + y) % 4294967296 : Nat) : Int) := by omega
def z64 : Array Value := (celW (List.replicate 64 0)).toArray
theorem z64_size : z64.size = 64 := by unfold z64; rw [List.size_toArray, celW_length]; simp
theorem z64_ne : z64 ≠ #[] := fun e => by have h := z64_size; rw [e] at h; simp at h
theorem z64_run (w : World) : Sem.run Tryd.prog (zeroValue 146) w = .ok (.agg z64) w := Tryd.zeroValue146 w
theorem RowW.z64 (w : World) (t : Nat) : RowW (w.alloc (.cells z64 t)) t w.heap.size (List.replicate 64 0) := RowW.new w t _
attribute [local simp] z64_ne z64_run
attribute [-simp] Tryd.zeroValue146 Tryd.isAgg146 Tryd.sizeOf146
set_option maxHeartbeats 1000000 in
theorem comp_any (s : Ch) (ad : Addr) (bt : Nat → Nat) (cp : Nat) (w : World) (hs : s.Ok) (hK : KT w) (hB : Blk w ad bt) (hcp : 64 ≤ cp) (hcm : cp ≤ 9223372036854775807) :
    Calls Tryd.prog 111 #[.agg (celW (chL s)).toArray, .slice (some ad) 64 cp] w fun e w' => e = .returned (.agg (celW (chL (compN s bt))).toArray) ∧ Below w.heap.size w w' := by
  have HK := Lib.hid hK
  have HB0 := Lib.hid hB
  clear hB hK
  go_enter Tryd.func111, Tryd.ntmps111
  go_wp2_with fail
  refine calls_named2 (fun w1 hb1 g0 g1 hlt1 => ?_)
  have hr0 : RowW w1 151 w.heap.size (chL s) := g0
  have hr1 : RowW w1 151 (w.heap.size + 1) [0, 0, 0, 0, 0, 0, 0, 0] := g1
  clear g0 g1 hlt1
  have HR0 := Lib.hid hr0
  have HR1 := Lib.hid hr1
  have HB := Lib.hid hb1
  clear hr0 hr1 hb1
  with_reducible refine (sched_any ad bt cp w1 (HB0.out.keep HB.out) hcp hcm).mono ?_
  rintro e W1 ⟨rfl, hb⟩
  have HRA := Lib.hid (HR0.out.keep hb)
  have HRB := Lib.hid (HR1.out.keep hb)
  have HBA := Lib.hid (bel_step HB.out hb)
  clear hb HR0 HR1 HB
  generalize hcs : (celW (schedN bt)).toArray = cs
  have hcz : cs.size = 64 := by rw [← hcs, List.size_toArray, celW_length, schedN_length]
  have hsc := run_storeCells_new (P := Tryd.prog) W1 146 z64 cs (by rw [hcz]; kernel_rfl) (by rw [hcz, z64_size]) (by rw [← hcs]; exact celW_one)
  go_wp2_with fail
  simp only [Tryd.sizeOf146, Result.andThen, ↓reduceIte, hsc]
  rw [Oper.upon_skip]
  clear hsc
  go_wp2_with fail
  refine wp_named1 (fun w2 hb2 g0 hlt2 => ?_)
  have hrw : RowW w2 146 W1.heap.size (schedN bt) := by unfold RowW; rw [g0, ← hcs]
  clear hcs hcz g0
  have hr0 := HRA.out.keep hb2
  have hr1 := HRB.out.keep hb2
  have hbb := bel_step HBA.out hb2
  have hg : w.heap.size + 2 ≤ W1.heap.size := HRB.out.lt
  clear HRA HRB HBA hb2 hlt2
  generalize W1.heap.size = gw at *
  have HR0 := Lib.hid hr0
  have HR1 := Lib.hid hr1
  have HRW := Lib.hid hrw
  have HB := Lib.hid hbb
  clear hr0 hr1 hrw hbb
  have c0 := HR0.out.at_ (i := 0) (x := s.a) rfl
  have c1 := HR0.out.at_ (i := 1) (x := s.b) rfl
  have c2 := HR0.out.at_ (i := 2) (x := s.c) rfl
  have c3 := HR0.out.at_ (i := 3) (x := s.d) rfl
  go_quiet (fail)
  have hb1 : Below w2.heap.size w2 (w2.drewN nq) := bel_drewN _ _ _
  have HB1 := Lib.hid hb1
  clear c0 c1 c2 c3 hb1
  generalize w2.drewN nq = w3 at *
  go_wp2_with fail
  have c4 := cell_keep (HR0.out.at_ (i := 4) (x := s.e) rfl) HB1.out
  have c5 := cell_keep (HR0.out.at_ (i := 5) (x := s.f) rfl) HB1.out
  have c6 := cell_keep (HR0.out.at_ (i := 6) (x := s.g) rfl) HB1.out
  have c7 := cell_keep (HR0.out.at_ (i := 7) (x := s.h) rfl) HB1.out
  go_quiet (fail)
  have hb1 : Below w3.heap.size w3 (w3.drewN nq) := bel_drewN _ _ _
  have HB2 := Lib.hid (bel_step HB1.out hb1)
  clear c4 c5 c6 c7 hb1
  generalize w3.drewN nq = w4 at *
  have H0 := Lib.hid (HR0.out.keep HB2.out)
  have H1 := Lib.hid (HR1.out.keep HB2.out)
  have HW := Lib.hid (HRW.out.keep HB2.out)
  have HBW := Lib.hid (bel_step HB.out HB2.out)
  clear HR0 HR1 HRW HB HB1 HB2
  have HWB := Lib.hid (schedN_lt bt HB0.out.byte)
  have HWL := Lib.hid (schedN_length bt)
  have HKW := Lib.hid (HK.out.keep HBW.out)
  have HC := Lib.hid (show compN s bt = addCh s (rndN (schedN bt) s 64) from rfl)
  clear HB0 HK
  generalize schedN bt = ws at *
  go_wp2_with fail
  go_loopw [6, 7, 8, 9, 10, 11, 12, 13, 37] (fun va vb vc vd ve vf vg vh s0 wr => ∃ (i : Nat) (S : Ch), i ≤ 64 ∧ s0 = .int .i64 i ∧ S = rndN ws s i ∧ va = .int .u32 S.a ∧ vb = .int .u32 S.b ∧ vc = .int .u32 S.c ∧ vd = .int .u32 S.d ∧ ve = .int .u32 S.e ∧ vf = .int .u32 S.f ∧ vg = .int .u32 S.g ∧ vh = .int .u32 S.h ∧ Below w4.heap.size w4 wr) (fun _ _ _ _ _ _ _ _ s0 _ => 64 - (intOf s0).toNat)
  case atStart => exact ⟨0, s, by omega, rfl, rfl, rfl, rfl, rfl, rfl, rfl, rfl, rfl, rfl, Below.refl _ _⟩
  case round =>
    obtain ⟨i, S, hi, rfl, hS, rfl, rfl, rfl, rfl, rfl, rfl, rfl, rfl, hb⟩ := hrel
    have hok : S.Ok := by rw [hS]; exact rndN_ok ws hs i
    have HS := Lib.hid hS
    have HB := Lib.hid hb
    clear hS hb
    by_cases hlt : i < 64
    · have hk1 : (i : Int) < 64 := by omega
      have hk0 : (0 : Int) ≤ (i : Int) := by omega
      obtain ⟨a, b, c, d, e, f, g, hh⟩ := S
      obtain ⟨la, lb, lc, ld, le, lf, lg, lh⟩ := hok
      dsimp only at la lb lc ld le lf lg lh
      have LA := Lib.hid la
      have LB := Lib.hid lb
      have LC := Lib.hid lc
      have LD := Lib.hid ld
      have LE := Lib.hid le
      have LF := Lib.hid lf
      have LG := Lib.hid lg
      have LH := Lib.hid lh
      clear la lb lc ld le lf lg lh
      have lk := Later.cell (cell_keep (HKW.out i hlt) HB.out)
      have lw := Later.cell (cell_keep (HW.out.at_ (x := ws.getD i 0) (by rw [List.getD_eq_getElem?_getD, List.getElem?_eq_getElem (by rw [HWL.out]; exact hlt)]; rfl)) HB.out)
      generalize hk : kN.getD i 0 = k at lk
      generalize hx : ws.getD i 0 = x at lw
      have HKX := Lib.hid (And.intro hk hx)
      clear hk hx
      dsimp only
      go_wp2_with fail
      refine wp_later_lex (by kernel_rfl) (lexOK_of (by kernel_rfl) (by kernel_rfl)) ?_
      repeat (go_big_quiet_step (first | (go_at_call 116; with_reducible exact Calls.later (rotate_6 e _ LE.out)) | (go_at_call 116; with_reducible exact Calls.later (rotate_11 e _ LE.out)) | (go_at_call 116; with_reducible exact Calls.later (rotate_25 e _ LE.out))))
      refine wpQuiet_nil ?_
      intro X
      clear lk lw
      have HB2 := Lib.hid (bel_step HB.out X.below)
      generalize X.at = w5 at *
      go_wp2_with fail
      with_reducible refine (rotate_2 a w5 LA.out).mono ?_
      rintro e1 W6 ⟨rfl, hb⟩
      have HB3 := Lib.hid (bel_step HB2.out hb)
      clear hb
      go_wp2_with fail
      with_reducible refine (rotate_13 a W6 LA.out).mono ?_
      rintro e1 W7 ⟨rfl, hb⟩
      have HB4 := Lib.hid (bel_step HB3.out hb)
      clear hb
      go_wp2_with fail
      with_reducible refine (rotate_22 a W7 LA.out).mono ?_
      rintro e1 W8 ⟨rfl, hb⟩
      have HB5 := Lib.hid (bel_step HB4.out hb)
      clear hb
      go_wp2_with fail
      go_roundw
      case rel =>
        have q1 := three_val (rotN_lt (n := 6) LE.out) (rotN_lt (n := 11) LE.out) (rotN_lt (n := 25) LE.out)
        have q2 := ch_val LE.out LF.out LG.out
        have q3 := three_val (rotN_lt (n := 2) LA.out) (rotN_lt (n := 13) LA.out) (rotN_lt (n := 22) LA.out)
        have q4 := maj_val LA.out LB.out LC.out
        rw [q1, q2, q3, q4]
        refine ⟨i + 1, roundN ⟨a, b, c, d, e, f, g, hh⟩ k x, by omega, by go_num, ?_, ?_, rfl, rfl, rfl, ?_, rfl, rfl, rfl, HB5.out⟩
        · rw [rndN, ← HS.out, HKX.out.1, HKX.out.2]
        · show _ = Value.int .u32 ((((hh + Sg1 e + chN e f g + k + x) % 4294967296 + (Sg0 a + majN a b c) % 4294967296) % 4294967296 : Nat) : Int)
          refine congrArg (Value.int .u32) ?_
          unfold Sg1 Sg0
          omega
        · show _ = Value.int .u32 (((d + (hh + Sg1 e + chN e f g + k + x) % 4294967296) % 4294967296 : Nat) : Int)
          refine congrArg (Value.int .u32) ?_
          unfold Sg1
          omega
      case measure => simp [intOf]; omega
    · have hkn : i = 64 := by omega
      subst hkn
      have c0 := cell_keep (H0.out.at_ (i := 0) (x := s.a) rfl) HB.out
      have c1 := cell_keep (H0.out.at_ (i := 1) (x := s.b) rfl) HB.out
      have c2 := cell_keep (H0.out.at_ (i := 2) (x := s.c) rfl) HB.out
      have c3 := cell_keep (H0.out.at_ (i := 3) (x := s.d) rfl) HB.out
      have c4 := cell_keep (H0.out.at_ (i := 4) (x := s.e) rfl) HB.out
      have c5 := cell_keep (H0.out.at_ (i := 5) (x := s.f) rfl) HB.out
      have c6 := cell_keep (H0.out.at_ (i := 6) (x := s.g) rfl) HB.out
      have c7 := cell_keep (H0.out.at_ (i := 7) (x := s.h) rfl) HB.out
      have hr1 := H1.out.keep HB.out
      have d0 := hr1.at_ (i := 0) (x := 0) rfl
      have d1 := hr1.at_ (i := 1) (x := 0) rfl
      have d2 := hr1.at_ (i := 2) (x := 0) rfl
      have d3 := hr1.at_ (i := 3) (x := 0) rfl
      have d4 := hr1.at_ (i := 4) (x := 0) rfl
      have d5 := hr1.at_ (i := 5) (x := 0) rfl
      have d6 := hr1.at_ (i := 6) (x := 0) rfl
      have d7 := hr1.at_ (i := 7) (x := 0) rfl
      have f0 := hr1.free 0
      have f1 := hr1.free 1
      have f2 := hr1.free 2
      have f3 := hr1.free 3
      have f4 := hr1.free 4
      have f5 := hr1.free 5
      have f6 := hr1.free 6
      have f7 := hr1.free 7
      have HR := Lib.hid hr1
      clear hr1
      go_wp2_with fail
      refine bodyPost_ret (v := .agg (celW (chL (compN s bt))).toArray) ?_ rfl ⟨rfl, ?_⟩
      · have hf := ((((((((HR.out.put 0 _ _ (add_val s.a S.a)).put 1 _ _ (add_val s.b S.b)).put 2 _ _ (add_val s.c S.c)).put 3 _ _ (add_val s.d S.d)).put 4 _ _ (add_val s.e S.e)).put 5 _ _ (add_val s.f S.f)).put 6 _ _ (add_val s.g S.g)).put 7 _ _ (add_val s.h S.h))
        rw [HC.out, ← HS.out]
        exact results_cell_row rfl _ _ (w.heap.size + 1) 151 _ (0, 0) _ rfl hf Tryd.underlying151 rfl (by kernel_rfl)
      · have hb := bel_step HBW.out HB.out
        exact (((((((hb.setCell (by simp) _).setCell (by simp) _).setCell (by simp) _).setCell (by simp) _).setCell (by simp) _).setCell (by simp) _).setCell (by simp) _).setCell (by simp) _
end Go.Proofs.YtgkojdbepgonkaaDoor

/- Rows of bytes; the digest of a chain. -/
namespace Go.Proofs.YtgkojdbepgonkaaDoor
set_option linter.unusedVariables false
set_option linter.unusedSimpArgs false
set_option maxRecDepth 8000
open Go.RowKit
def celB (ws : List Nat) : List Value := ws.map fun x : Nat => .int .u8 (x : Int)
theorem celB_length (ws : List Nat) : (celB ws).length = ws.length := by unfold celB; simp
theorem celB_get {ws : List Nat} {i x : Nat} (h : ws[i]? = some x) : (celB ws)[i]? = some (.int .u8 (x : Int)) := by unfold celB; simp [h]
theorem celB_one {ws : List Nat} : (celB ws).toArray.all (·.oneCell') = true := by
  rw [List.all_toArray, List.all_eq_true]
  intro u hu
  unfold celB at hu
  obtain ⟨x, _, rfl⟩ := List.mem_map.1 hu
  rfl
/-- block g, of type t, holds just the bytes ws -/
def RowB (w : World) (t g : Nat) (ws : List Nat) : Prop := w.heap[g]? = some (.cells (celB ws).toArray t (0, 0))
section
variable {w w' : World} {t g : Nat} {ws : List Nat}
theorem RowB.lt (h : RowB w t g ws) : g < w.heap.size := (Array.getElem?_eq_some_iff.1 h).1
theorem RowB.keep (h : RowB w t g ws) (hb : Below w.heap.size w w') : RowB w' t g ws := (hb.block g h.lt).trans h
theorem RowB.same (h : RowB w t g ws) (e : w'.heap[g]? = w.heap[g]?) : RowB w' t g ws := e.trans h
theorem RowB.at_ {i x : Nat} (h : RowB w t g ws) (hx : ws[i]? = some x) : w.cell? ⟨g, i, none⟩ = some (.int .u8 (x : Int)) := by
  unfold RowB at h
  simpa [World.cell?, h] using celB_get hx
theorem RowB.free (h : RowB w t g ws) (k : Nat) : w.frozen? ⟨g, k, none⟩ = false := by
  unfold RowB at h
  simp [World.frozen?, h]
theorem RowB.set (h : RowB w t g ws) (i x : Nat) : RowB (w.setCell ⟨g, i, none⟩ (.int .u8 (x : Int))) t g (ws.set i x) := by
  have h1 := heap_setCell_at (i := i) h (.int .u8 (x : Int))
  unfold RowB
  rw [h1]
  unfold celB
  rw [List.map_set]
  simp
theorem RowB.far (h : RowB w t g ws) {a : Addr} (x : Value) (e : g ≠ a.block) : RowB (w.setCell a x) t g ws := (Below.heap_setCell w a x g e).trans h
theorem RowB.new (w : World) (t : Nat) (ws : List Nat) : RowB (w.alloc (.cells (celB ws).toArray t)) t w.heap.size ws := heap_alloc_last w _
theorem RowB.new1 (w : World) (t : Nat) (ws : List Nat) (e : w.heap.size = g) : RowB (w.alloc (.cells (celB ws).toArray t)) t g ws := e ▸ RowB.new w t ws
theorem RowB.alloc (h : RowB w t g ws) (o : Obj) : RowB (w.alloc o) t g ws := (Below.heap_alloc w o g h.lt).trans h
end
/-! ### whole rows, loaded and stored -/
theorem run_loadB {P : Program} {w : World} {t g : Nat} {ws : List Nat} (h : RowB w t g ws) (n : Nat) (hl : ws.length = n) :
    (loadCellsFrom ⟨g, 0, none⟩ 0 n #[]).run P w = .ok (celB ws).toArray w := by
  subst hl
  have := run_loadCells_list (P := P) w ⟨g, 0, none⟩ (celB ws) (fun j v hv => by
    have hadd : (⟨g, 0, none⟩ : Addr).add j = ⟨g, j, none⟩ := by unfold Addr.add; split <;> simp_all
    rw [hadd, cell_of_row _ _ j _ t (0, 0) h]
    simpa using hv)
  rw [celB_length] at this
  simpa [loadCells] using this
theorem run_storeB {P : Program} {w : World} {t g : Nat} {old ws : List Nat} (h : RowB w t g old) (hl : old.length = ws.length) :
    (storeCells ⟨g, 0, none⟩ (celB ws) 0).run P w = .ok () (w.setRow g (celB ws).toArray) := by
  have := run_storeCells_from (P := P) g t (celB ws) 0 (celB old).toArray w h (by simp [celB_length]; omega) (fun v hv => (Array.all_eq_true_iff_forall_mem.1 (celB_one (ws := ws))) v (by simpa using hv))
  simpa using this
theorem RowB.row {w : World} {t g : Nat} {old : List Nat} (h : RowB w t g old) (ws : List Nat) : RowB (w.setRow g (celB ws).toArray) t g ws := by
  unfold RowB at *
  simp [World.setRow, Array.getElem?_modify, h]
theorem RowB.farRow {w : World} {t g k : Nat} {ws : List Nat} (h : RowB w t g ws) (e : g ≠ k) (cs : Array Value) : RowB (w.setRow k cs) t g ws := by
  unfold RowB at *
  simp [World.setRow, Array.getElem?_modify, h, Ne.symm e]
theorem RowB.put {w : World} {t g : Nat} {ws : List Nat} (h : RowB w t g ws) (i : Nat) (v : Int) (x : Nat) (e : v = (x : Int)) : RowB (w.setCell ⟨g, i, none⟩ (.int .u8 v)) t g (ws.set i x) := by
  rw [e]; exact h.set i x

theorem set_midB {l : List Nat} {n N : Nat} (x : Nat) (hl : l.length = n) (hn : n < N) :
    (l ++ List.replicate (N - n) 0).set n x = (l ++ [x]) ++ List.replicate (N - (n + 1)) 0 := set_mid x hl hn
/-- the first n bytes of a digest -/
def digN (s : Ch) (n : Nat) : List Nat := (List.range n).map fun i => (chL s).getD (i / 4) 0 / 2 ^ (24 - i % 4 * 8) % 256
theorem digN_length (s : Ch) (n : Nat) : (digN s n).length = n := by unfold digN; simp
theorem digN_succ (s : Ch) (n : Nat) : digN s (n + 1) = digN s n ++ [(chL s).getD (n / 4) 0 / 2 ^ (24 - n % 4 * 8) % 256] := by
  unfold digN; rw [List.range_succ]; simp
theorem chL_lt {s : Ch} (h : s.Ok) : ∀ x ∈ chL s, x < 4294967296 := by
  obtain ⟨h1, h2, h3, h4, h5, h6, h7, h8⟩ := h
  intro x hx
  simp only [chL, List.mem_cons, List.not_mem_nil, or_false] at hx
  rcases hx with rfl | rfl | rfl | rfl | rfl | rfl | rfl | rfl <;> assumption
attribute [-simp] Tryd.isAgg34 Tryd.sizeOf34
set_option maxHeartbeats 1000000 in
theorem digest_any (s : Ch) (w : World) (hs : s.Ok) :
    Calls Tryd.prog 112 #[.agg (celW (chL s)).toArray] w fun e w' => e = .returned (.agg (celB (digN s 32)).toArray) ∧ Below w.heap.size w w' := by
  go_enter Tryd.func112, Tryd.ntmps112
  go_wp2_with fail
  refine wp_named3 (fun w1 hb1 g0 g1 g2 hlt1 => ?_)
  have HR0 := Lib.hid (show RowW w1 151 w.heap.size (chL s) from g0)
  have hr1 : RowB w1 34 (w.heap.size + 1) (List.replicate 32 0) := g1
  have hr2 : RowB w1 34 (w.heap.size + 1 + 1) (List.replicate 32 0) := g2
  have HR1 := Lib.hid hr1
  have HR2 := Lib.hid hr2
  have HB1 := Lib.hid hb1
  clear g0 g1 g2 hlt1 hr1 hr2 hb1
  have HL := Lib.hid (chL_lt hs)
  go_loopw [5] (fun s0 wr => ∃ i : Nat, i ≤ 32 ∧ s0 = .int .i64 i ∧ RowW wr 151 w.heap.size (chL s) ∧ RowB wr 34 (w.heap.size + 1) (List.replicate 32 0) ∧ RowB wr 34 (w.heap.size + 1 + 1) (digN s i ++ List.replicate (32 - i) 0) ∧ Below w.heap.size w wr) (fun s0 _ => 32 - (intOf s0).toNat)
  case atStart => exact ⟨0, by omega, rfl, HR0.out, HR1.out, HR2.out, HB1.out⟩
  case round =>
    clear HR0 HR1 HR2 HB1
    obtain ⟨i, hi, rfl, hr0, hr1, hr2, hb⟩ := hrel
    have HR0 := Lib.hid hr0
    have HR1 := Lib.hid hr1
    have HR2 := Lib.hid hr2
    have HB := Lib.hid hb
    clear hr0 hr1 hr2 hb
    by_cases hlt : i < 32
    · have hk1 : (i : Int) < 32 := by omega
      have hk0 : (0 : Int) ≤ (i : Int) := by omega
      have c0 := HR0.out.at_ (i := i / 4) (x := (chL s).getD (i / 4) 0) (by rw [List.getD_eq_getElem?_getD, List.getElem?_eq_getElem (by rw [chL_length]; omega)]; rfl)
      have hx := getD_lt HL.out (i / 4)
      have hdg := digN_succ s i
      generalize (chL s).getD (i / 4) 0 = x at *
      have HDG := Lib.hid hdg
      have HX := Lib.hid hx
      clear hdg hx
      have b0 := HR2.out.at_ (i := i) (x := 0) (get_zero (digN_length s i) hlt)
      have b1 := HR2.out.free i
      have e0 : (0 : Int) ≤ (i : Int) / 4 := by omega
      have e1 : (i : Int) / 4 < 8 := by omega
      have e2 : ((i : Int) / 4).toNat = i / 4 := by omega
      have e3 : (0 : Int) ≤ 24 - (i : Int) % 4 * 8 := by omega
      have e4 : (24 - (i : Int) % 4 * 8).toNat = 24 - i % 4 * 8 := by omega
      have e5 : min (24 - i % 4 * 8) 32 = 24 - i % 4 * 8 := by omega
      go_wp2_with fail
      go_roundw
      case rel =>
        refine ⟨i + 1, by omega, by go_num, HR0.out.far _ (by simp; omega), HR1.out.far _ (by simp), ?_, HB.out.setCell (by simp; omega) _⟩
        rw [HDG.out, ← set_midB _ (digN_length s i) (by omega)]
        refine HR2.out.put i _ _ ?_
        rw [Int.natCast_emod, Int.natCast_ediv, Int.natCast_pow]
        rfl
      case measure => simp [intOf]; omega
    · have hkn : i = 32 := by omega
      subst hkn
      have hld := run_loadB (P := Tryd.prog) HR2.out 32 (by simp [digN_length])
      have hsz : (celB (digN s 32)).length = 32 := by rw [celB_length, digN_length]
      have hsc := run_storeB (P := Tryd.prog) (ws := digN s 32) HR1.out (by simp [digN_length])
      go_wp2_with fail
      simp only [Tryd.isAgg34, Tryd.sizeOf34, Result.andThen, ↓reduceIte, hld]
      rw [Oper.upon_value]
      go_wp2_with fail
      simp only [Tryd.sizeOf34, Result.andThen, ↓reduceIte, hsc]
      rw [Oper.upon_skip]
      go_wp2_with fail
      refine bodyPost_ret (v := .agg (celB (digN s 32)).toArray) ?_ rfl ⟨rfl, bel_setRow HB.out (by omega) _⟩
      exact results_cell_row rfl _ _ (w.heap.size + 1) 34 _ (0, 0) _ rfl (HR1.out.row (digN s 32)) Tryd.underlying34 rfl (by rw [show (celB (digN s 32)).toArray.size = 32 by simp [hsz]]; kernel_rfl)
end Go.Proofs.YtgkojdbepgonkaaDoor

/- The reference's schedule. -/
namespace Go.Proofs.YtgkojdbepgonkaaDoor
set_option linter.unusedVariables false
set_option linter.unusedSimpArgs false
set_option maxRecDepth 8000
open Go.RowKit
/-- the first n words of the schedule -/
def schI (b : Nat → Nat) : Nat → List Nat
  | 0 => []
  | n + 1 => schI b n ++ [if n < 16 then wordN (b (4 * n)) (b (4 * n + 1)) (b (4 * n + 2)) (b (4 * n + 3)) else nextW (schI b n)]
theorem schI_length (b : Nat → Nat) (n : Nat) : (schI b n).length = n := by
  induction n with
  | zero => rfl
  | succ n ih => rw [schI]; simp [ih]
theorem schI_head (b : Nat → Nat) (n : Nat) (hn : n ≤ 16) : schI b n = headW b n := by
  induction n with
  | zero => rfl
  | succ n ih => rw [schI, headW_succ, ih (by omega), if_pos (by omega)]
theorem schI_more (b : Nat → Nat) (k : Nat) : schI b (16 + k) = moreW k (headW b 16) := by
  induction k with
  | zero => exact schI_head b 16 (by omega)
  | succ k ih => rw [show 16 + (k + 1) = (16 + k) + 1 by omega, schI, moreW_succ, ih, if_neg (by omega)]
theorem schI_all (b : Nat → Nat) : schI b 64 = schedN b := schI_more b 48
theorem schI_lt (b : Nat → Nat) (hb : ∀ i, b i < 256) (n : Nat) : ∀ x ∈ schI b n, x < 4294967296 := by
  by_cases h : n ≤ 16
  · rw [schI_head b n h]; exact headW_lt b hb n
  · rw [show n = 16 + (n - 16) by omega, schI_more]; exact moreW_lt _ _ (headW_lt b hb 16)
attribute [local simp] z64_ne z64_run
attribute [-simp] Tryd.zeroValue146 Tryd.isAgg146 Tryd.sizeOf146
set_option maxHeartbeats 1000000 in
theorem rsched_any (ad : Addr) (bt : Nat → Nat) (cp : Nat) (w : World) (hB : Blk w ad bt) (_hcp : 64 ≤ cp) (_hcm : cp ≤ 9223372036854775807) :
    Calls Tryd.prog 104 #[.slice (some ad) 64 cp] w fun e w' => e = .returned (.agg (celW (schedN bt)).toArray) ∧ Below w.heap.size w w' := by
  have HB0 := Lib.hid hB
  clear hB
  go_enter Tryd.func104, Tryd.ntmps104
  go_wp2_with fail
  have hsc := run_storeCells_new (P := Tryd.prog) (w.alloc (.cells z64 146)) 146 z64 z64 (by rw [z64_size]; kernel_rfl) rfl celW_one
  rw [alloc_sz] at hsc
  simp only [Tryd.sizeOf146, Result.andThen, ↓reduceIte, hsc, z64_size]
  rw [Oper.upon_skip]
  clear hsc
  go_wp2_with fail
  refine wp_named2 (fun w1 hb1 g0 g1 hlt1 => ?_)
  have hr0 : RowW w1 146 w.heap.size (List.replicate 64 0) := g0
  have hr1 : RowW w1 146 (w.heap.size + 1) (List.replicate 64 0) := g1
  have HR0 := Lib.hid hr0
  have HR1 := Lib.hid hr1
  have HB1 := Lib.hid hb1
  clear g0 g1 hlt1 hr0 hr1 hb1
  go_loopw [4] (fun s0 wr => ∃ i : Nat, i ≤ 64 ∧ s0 = .int .i64 i ∧ RowW wr 146 w.heap.size (List.replicate 64 0) ∧ RowW wr 146 (w.heap.size + 1) (schI bt i ++ List.replicate (64 - i) 0) ∧ Below w.heap.size w wr) (fun s0 _ => 64 - (intOf s0).toNat)
  case atStart => exact ⟨0, by omega, rfl, HR0.out, HR1.out, HB1.out⟩
  case round =>
    clear HR0 HR1 HB1
    obtain ⟨i, hi, rfl, hr0, hr1, hb⟩ := hrel
    have HL := Lib.hid (schI_length bt i)
    have HW := Lib.hid (schI_lt bt HB0.out.byte i)
    have HR0 := Lib.hid hr0
    have HR1 := Lib.hid hr1
    have HB := Lib.hid hb
    clear hr0 hr1 hb
    by_cases hlt : i < 16
    · have hk1 : (i : Int) < 64 := by omega
      have hk2 : (i : Int) < 16 := by omega
      have hk0 : (0 : Int) ≤ (i : Int) := by omega
      have hBr := HB0.out.keep HB.out
      have v0 := hBr.byte (4 * i)
      have v1 := hBr.byte (4 * i + 1)
      have v2 := hBr.byte (4 * i + 2)
      have v3 := hBr.byte (4 * i + 3)
      have e0 := hBr.cell (4 * i) (by omega)
      have e1 := hBr.cell (4 * i + 1) (by omega)
      have e2 := hBr.cell (4 * i + 2) (by omega)
      have e3 := hBr.cell (4 * i + 3) (by omega)
      have hx : schI bt (i + 1) = schI bt i ++ [wordN (bt (4 * i)) (bt (4 * i + 1)) (bt (4 * i + 2)) (bt (4 * i + 3))] := by rw [schI, if_pos hlt]
      generalize hb0 : bt (4 * i) = b0 at *
      generalize hb1 : bt (4 * i + 1) = b1 at *
      generalize hb2 : bt (4 * i + 2) = b2 at *
      generalize hb3 : bt (4 * i + 3) = b3 at *
      have HX := Lib.hid hx
      clear hx hBr hb0 hb1 hb2 hb3
      go_wp2_with fail
      have kv0 : IntKind.u32.wrap (b0 : Int) = (b0 : Int) := by rw [IntKind.wrap_u32]; omega
      have kv1 : IntKind.u32.wrap (b1 : Int) = (b1 : Int) := by rw [IntKind.wrap_u32]; omega
      have kv2 : IntKind.u32.wrap (b2 : Int) = (b2 : Int) := by rw [IntKind.wrap_u32]; omega
      have kv3 : IntKind.u32.wrap (b3 : Int) = (b3 : Int) := by rw [IntKind.wrap_u32]; omega
      simp [Addr.add] at e1 e2 e3
      have c0 : ({ wr with drawn := wr.drawn + 1 } : World).cell? _ = _ := e0
      have c1 : ({ wr with drawn := wr.drawn + 1 } : World).cell? _ = _ := e1
      have c2 : ({ wr with drawn := wr.drawn + 1 } : World).cell? _ = _ := e2
      have c3 : ({ wr with drawn := wr.drawn + 1 } : World).cell? _ = _ := e3
      have k0 : ((4 : Int) * (i : Int)).toNat = 4 * i := by omega
      have k1 : ((4 : Int) * (i : Int) + 1).toNat = 4 * i + 1 := by omega
      have k2 : ((4 : Int) * (i : Int) + 2).toNat = 4 * i + 2 := by omega
      have k3 : ((4 : Int) * (i : Int) + 3).toNat = 4 * i + 3 := by omega
      have kw0 : IntKind.i64.wrap ((4 : Int) * (i : Int)) = (4 : Int) * (i : Int) := by rw [IntKind.wrap_i64]; omega
      have kn0 : (0 : Int) ≤ (4 : Int) * (i : Int) := by omega
      have km0 : (4 : Int) * (i : Int) < 64 := by omega
      have kw1 : IntKind.i64.wrap ((4 : Int) * (i : Int) + 1) = (4 : Int) * (i : Int) + 1 := by rw [IntKind.wrap_i64]; omega
      have kn1 : (0 : Int) ≤ (4 : Int) * (i : Int) + 1 := by omega
      have km1 : (4 : Int) * (i : Int) + 1 < 64 := by omega
      have kw2 : IntKind.i64.wrap ((4 : Int) * (i : Int) + 2) = (4 : Int) * (i : Int) + 2 := by rw [IntKind.wrap_i64]; omega
      have kn2 : (0 : Int) ≤ (4 : Int) * (i : Int) + 2 := by omega
      have km2 : (4 : Int) * (i : Int) + 2 < 64 := by omega
      have kw3 : IntKind.i64.wrap ((4 : Int) * (i : Int) + 3) = (4 : Int) * (i : Int) + 3 := by rw [IntKind.wrap_i64]; omega
      have kn3 : (0 : Int) ≤ (4 : Int) * (i : Int) + 3 := by omega
      have km3 : (4 : Int) * (i : Int) + 3 < 64 := by omega
      refine wp_region_still_tail 35 (by kernel_rfl) (by kernel_rfl) ?_
      simp only [List.take_succ_cons, List.take_zero, List.drop_succ_cons, List.drop_zero]
      repeat still_step
      refine wpStill_nil ?_
      clear c0 c1 c2 c3 e0 e1 e2 e3 kv0 kv1 kv2 kv3 kw0 kw1 kw2 kw3 kn0 kn1 kn2 kn3 km0 km1 km2 km3
      have d3 : wr.drew.cell? ⟨w.heap.size + 1, i, none⟩ = _ := HR1.out.at_ (get_zero HL.out (by omega))
      have d4 : wr.drew.frozen? ⟨w.heap.size + 1, i, none⟩ = _ := HR1.out.free i
      have HR4 := Lib.hid (show RowW wr.drew 146 w.heap.size (List.replicate 64 0) from HR0.out)
      have HR5 := Lib.hid (show RowW wr.drew 146 (w.heap.size + 1) (schI bt i ++ List.replicate (64 - i) 0) from HR1.out)
      have HB7 := Lib.hid (show Below w.heap.size w wr.drew from HB.out.drew)
      clear HR0 HR1 HB
      change wpList _ _ _ _ _ wr.drew
      generalize wr.drew = w5 at *
      go_wp2_with fail
      go_roundw
      case rel =>
        refine ⟨i + 1, by omega, by go_num, HR4.out.far _ (by simp), ?_, HB7.out.setCell (by simp) _⟩
        rw [HX.out, ← set_mid _ HL.out (by omega)]
        refine HR5.out.put i _ _ ?_
        unfold wordN
        omega
      case measure => simp [intOf]; omega
    · by_cases h64 : i < 64
      · obtain ⟨j, rfl⟩ : ∃ j, i = j + 16 := ⟨i - 16, by omega⟩
        have hx : schI bt (j + 16 + 1) = schI bt (j + 16) ++ [nextW (schI bt (j + 16))] := by rw [schI, if_neg hlt]
        generalize schI bt (j + 16) = ws at *
        have HX := Lib.hid hx
        clear hx
        have hk1 : (j : Int) < 48 := by omega
        have hk0 : (0 : Int) ≤ (j : Int) := by omega
        have hcast : ((j + 16 : Nat) : Int) = (j : Int) + 16 := by omega
        have c16 := HR1.out.at_ (get_mid (m := 64 - (j + 16)) (show j < ws.length by rw [HL.out]; omega))
        have c15 := HR1.out.at_ (get_mid (m := 64 - (j + 16)) (show j + 1 < ws.length by rw [HL.out]; omega))
        have c7 := HR1.out.at_ (get_mid (m := 64 - (j + 16)) (show j + 9 < ws.length by rw [HL.out]; omega))
        have c2 := HR1.out.at_ (get_mid (m := 64 - (j + 16)) (show j + 14 < ws.length by rw [HL.out]; omega))
        have l15 := getD_lt HW.out (j + 1)
        have l2 := getD_lt HW.out (j + 14)
        generalize h16 : ws.getD j 0 = x16 at *
        generalize h15 : ws.getD (j + 1) 0 = x15 at *
        generalize h7 : ws.getD (j + 9) 0 = x7 at *
        generalize h2 : ws.getD (j + 14) 0 = x2 at *
        have HN := Lib.hid (nextW_at HL.out h16 h15 h7 h2)
        clear h16 h15 h7 h2
        have C16 := Lib.hid c16
        have C7 := Lib.hid c7
        have L15 := Lib.hid l15
        have L2 := Lib.hid l2
        clear c16 c7 l15 l2
        rw [hcast]
        clear hcast
        go_wp2_with fail
        go_quiet (fail)
        have hb1 : Below wr.heap.size wr (wr.drewN nq) := bel_drewN _ _ _
        have HB1 := Lib.hid hb1
        clear hb1 c15 c2
        generalize wr.drewN nq = w2 at *
        go_wp2_with fail
        have c1 := Later.cell (cell_keep C16.out HB1.out)
        have c3 := Later.cell (cell_keep C7.out HB1.out)
        have hw16 : IntKind.i64.wrap (j : Int) = (j : Int) := by rw [IntKind.wrap_i64]; omega
        have hw7 : IntKind.i64.wrap ((j : Int) + 16 - 7) = (j : Int) + 9 := by rw [IntKind.wrap_i64]; omega
        have k1 : (j : Int) < 64 := by omega
        have k2 : (j : Int) + 9 < 64 := by omega
        have k3 : (j : Int) + 16 < 64 := by omega
        have k4 : (0 : Int) ≤ (j : Int) + 9 := by omega
        have k5 : (0 : Int) ≤ (j : Int) + 16 := by omega
        have k6 : ((j : Int) + 9).toNat = j + 9 := by omega
        have k7 : ((j : Int) + 16).toNat = j + 16 := by omega
        refine wp_later_tail 29 (by kernel_rfl) (by kernel_rfl) ?_
        simp only [List.take_succ_cons, List.take_zero, List.drop_succ_cons, List.drop_zero]
        repeat (go_big_quiet_step (first | (go_at_call 106; with_reducible exact Calls.later (rrotate_7 x15 _ L15.out)) | (go_at_call 106; with_reducible exact Calls.later (rrotate_18 x15 _ L15.out)) | (go_at_call 106; with_reducible exact Calls.later (rrotate_17 x2 _ L2.out)) | (go_at_call 106; with_reducible exact Calls.later (rrotate_19 x2 _ L2.out))))
        refine wpQuiet_nil ?_
        intro X
        clear c1 c3 hw16 hw7
        have HB5 := Lib.hid (bel_step HB1.out X.below)
        generalize X.at = w5 at *
        have HR4 := Lib.hid (HR0.out.keep HB5.out)
        have HR5 := Lib.hid (HR1.out.keep HB5.out)
        have HB7 := Lib.hid (bel_step HB.out HB5.out)
        have d3 := HR5.out.at_ (get_zero HL.out (show j + 16 < 64 by omega))
        have d4 := HR5.out.free (j + 16)
        clear HR0 HR1 HB HB1 HB5 C16 C7
        go_wp2_with fail
        go_roundw
        case rel =>
          refine ⟨j + 16 + 1, by omega, by go_num, HR4.out.far _ (by simp), ?_, HB7.out.setCell (by simp) _⟩
          rw [HX.out, ← set_mid _ HL.out (by omega)]
          refine HR5.out.put (j + 16) _ _ ?_
          rw [HN.out]
          have q1 := sg0_val L15.out
          have q2 := sg1_val L2.out
          rw [q1, q2]
          have := sg0_lt L15.out
          have := sg1_lt L2.out
          omega
        case measure => simp [intOf]; omega
      · obtain rfl : i = 64 := by omega
        have hlc := run_loadW (P := Tryd.prog) HR1.out 64 (by simp [HL.out])
        have hsz : (celW (schI bt 64)).length = 64 := by rw [celW_length, HL.out]
        have hsc := run_storeW (P := Tryd.prog) (ws := schI bt 64) HR0.out (by simp [HL.out])
        have HA := Lib.hid (schI_all bt)
        generalize schI bt 64 = ws at *
        go_wp2_with fail
        simp only [Tryd.isAgg146, Tryd.sizeOf146, Result.andThen, ↓reduceIte, hlc]
        rw [Oper.upon_value]
        go_wp2_with fail
        simp only [Tryd.sizeOf146, Result.andThen, ↓reduceIte, hsc]
        rw [Oper.upon_skip]
        go_wp2_with fail
        refine bodyPost_ret (v := .agg (celW ws).toArray) ?_ rfl ⟨by rw [HA.out], bel_setRow HB.out (Nat.le_refl _) _⟩
        exact results_cell_row rfl _ _ w.heap.size 146 _ (0, 0) _ rfl (HR0.out.row ws) Tryd.underlying146 rfl (by rw [show (celW ws).toArray.size = 64 by simp [hsz]]; kernel_rfl)
end Go.Proofs.YtgkojdbepgonkaaDoor
