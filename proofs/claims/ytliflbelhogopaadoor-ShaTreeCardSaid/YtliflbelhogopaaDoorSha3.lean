/- Rows of words; blocks of bytes; schedule. -/
import Derived.Test.YtliflbelhogopaaDoorSha2
import Derived.Deep.WholeRow
import Derived.Deep.MidRow
import Derived.StillTailTactics
namespace Go.Proofs.YtliflbelhogopaaDoor
set_option maxRecDepth 8000
open Go.RowKit

theorem bel_step {w W W1 : World} (h : Below w.heap.size w W) (h1 : Below W.heap.size W W1) : Below w.heap.size w W1 := h.trans (h1.mono h.size)
def celW (ws : List Nat) : List Value := ws.map fun x : Nat => .int .u32 (x : Int)
theorem celW_length (ws : List Nat) : (celW ws).length = ws.length := by unfold celW; simp
theorem celW_get {ws : List Nat} {i x : Nat} (h : ws[i]? = some x) : (celW ws)[i]? = some (.int .u32 (x : Int)) := by unfold celW; simp [h]
theorem celW_one {ws : List Nat} : (celW ws).toArray.all (·.oneCell') = true := by
  rw [List.all_toArray, List.all_eq_true]
  intro u hu
  unfold celW at hu
  obtain ⟨x, _, rfl⟩ := List.mem_map.1 hu
  rfl
/-- block g, of type t, holds just the words ws -/
def RowW (w : World) (t g : Nat) (ws : List Nat) : Prop := w.heap[g]? = some (.cells (celW ws).toArray t (0, 0))
section
variable {w w' : World} {t g : Nat} {ws : List Nat}
theorem RowW.lt (h : RowW w t g ws) : g < w.heap.size := (Array.getElem?_eq_some_iff.1 h).1
theorem RowW.keep (h : RowW w t g ws) (hb : Below w.heap.size w w') : RowW w' t g ws := (hb.block g h.lt).trans h
theorem RowW.same (h : RowW w t g ws) (e : w'.heap[g]? = w.heap[g]?) : RowW w' t g ws := e.trans h
theorem RowW.at_ {i x : Nat} (h : RowW w t g ws) (hx : ws[i]? = some x) : w.cell? ⟨g, i, none⟩ = some (.int .u32 (x : Int)) := by
  unfold RowW at h
  simpa [World.cell?, h] using celW_get hx
theorem RowW.free (h : RowW w t g ws) (k : Nat) : w.frozen? ⟨g, k, none⟩ = false := by
  unfold RowW at h
  simp [World.frozen?, h]
theorem RowW.set (h : RowW w t g ws) (i x : Nat) : RowW (w.setCell ⟨g, i, none⟩ (.int .u32 (x : Int))) t g (ws.set i x) := by
  have h1 := heap_setCell_at (i := i) h (.int .u32 (x : Int))
  unfold RowW
  rw [h1]
  unfold celW
  rw [List.map_set]
  simp
theorem RowW.far (h : RowW w t g ws) {a : Addr} (x : Value) (e : g ≠ a.block) : RowW (w.setCell a x) t g ws := (Below.heap_setCell w a x g e).trans h
theorem RowW.new (w : World) (t : Nat) (ws : List Nat) : RowW (w.alloc (.cells (celW ws).toArray t)) t w.heap.size ws := heap_alloc_last w _
theorem RowW.new1 (w : World) (t : Nat) (ws : List Nat) (e : w.heap.size = g) : RowW (w.alloc (.cells (celW ws).toArray t)) t g ws := e ▸ RowW.new w t ws
theorem alloc_sz (w : World) (o : Obj) : (w.alloc o).heap.size = w.heap.size + 1 := by simp
theorem RowW.alloc (h : RowW w t g ws) (o : Obj) : RowW (w.alloc o) t g ws := (Below.heap_alloc w o g h.lt).trans h
end
/-- the sixty-four bytes of a block, from address ad on -/
structure Blk (w : World) (ad : Addr) (bt : Nat → Nat) : Prop where
  byte : ∀ i, bt i < 256
  cell : ∀ i, i < 64 → w.cell? (ad.add i) = some (.int .u8 (bt i : Int))
theorem Blk.keep {w w' : World} {ad : Addr} {bt : Nat → Nat} (h : Blk w ad bt) (hb : Below w.heap.size w w') : Blk w' ad bt :=
  ⟨h.byte, fun i hi => cell_keep (h.cell i hi) hb⟩
theorem ad_add (a : Addr) (i j : Nat) : (a.add i).add j = a.add (i + j) := by
  unfold Addr.add
  by_cases hi : i = 0 <;> by_cases hj : j = 0 <;> simp [hi, hj, Nat.add_assoc]
theorem set_mid {l : List Nat} {n N : Nat} (x : Nat) (hl : l.length = n) (hn : n < N) :
    (l ++ List.replicate (N - n) 0).set n x = (l ++ [x]) ++ List.replicate (N - (n + 1)) 0 := by
  have e : N - n = (N - (n + 1)) + 1 := by omega
  rw [e, List.replicate_succ]
  subst hl
  simp
theorem get_zero {l : List Nat} {n N : Nat} (hl : l.length = n) (hn : n < N) : (l ++ List.replicate (N - n) 0)[n]? = some 0 := by
  have e : N - n = (N - (n + 1)) + 1 := by omega
  rw [e, List.replicate_succ]
  subst hl
  simp
theorem get_mid {l : List Nat} {m i : Nat} (hi : i < l.length) : (l ++ List.replicate m 0)[i]? = some (l.getD i 0) := by
  rw [List.getElem?_append_left hi, List.getD_eq_getElem?_getD, List.getElem?_eq_getElem hi]; rfl
theorem getD_lt {l : List Nat} (h : ∀ x ∈ l, x < 4294967296) (i : Nat) : l.getD i 0 < 4294967296 := by
  rw [List.getD_eq_getElem?_getD]
  cases hx : l[i]? with
  | none => decide
  | some x => exact h x (List.mem_of_getElem? hx)
/-! ### whole rows, loaded and stored -/
theorem run_loadW {P : Program} {w : World} {t g : Nat} {ws : List Nat} (h : RowW w t g ws) (n : Nat) (hl : ws.length = n) :
    (loadCellsFrom ⟨g, 0, none⟩ 0 n #[]).run P w = .ok (celW ws).toArray w := by
  subst hl
  have := run_loadCells_list (P := P) w ⟨g, 0, none⟩ (celW ws) (fun j v hv => by
    have hadd : (⟨g, 0, none⟩ : Addr).add j = ⟨g, j, none⟩ := by unfold Addr.add; split <;> simp_all
    rw [hadd, cell_of_row _ _ j _ t (0, 0) h]
    simpa using hv)
  rw [celW_length] at this
  simpa [loadCells] using this
theorem run_storeW {P : Program} {w : World} {t g : Nat} {old ws : List Nat} (h : RowW w t g old) (hl : old.length = ws.length) :
    (storeCells ⟨g, 0, none⟩ (celW ws) 0).run P w = .ok () (w.setRow g (celW ws).toArray) := by
  have := run_storeCells_from (P := P) g t (celW ws) 0 (celW old).toArray w h (by simp [celW_length]; omega) (fun v hv => (Array.all_eq_true_iff_forall_mem.1 (celW_one (ws := ws))) v (by simpa using hv))
  simpa using this
theorem RowW.row {w : World} {t g : Nat} {old : List Nat} (h : RowW w t g old) (ws : List Nat) : RowW (w.setRow g (celW ws).toArray) t g ws := by
  unfold RowW at *
  simp [World.setRow, Array.getElem?_modify, h]
theorem bel_setRow {B : Nat} {a w : World} (h : Below B a w) {g : Nat} (hg : B ≤ g) (cs : Array Value) : Below B a (w.setRow g cs) :=
  ⟨h.os, h.tape, h.output, by simpa [World.setRow] using h.size, fun k hk => by
    have : k ≠ g := by omega
    simp [World.setRow, Array.getElem?_modify, Ne.symm this]
    exact h.block k hk⟩
theorem RowW.farRow {w : World} {t g k : Nat} {ws : List Nat} (h : RowW w t g ws) (e : g ≠ k) (cs : Array Value) : RowW (w.setRow k cs) t g ws := by
  unfold RowW at *
  simp [World.setRow, Array.getElem?_modify, h, Ne.symm e]
theorem RowW.put {w : World} {t g : Nat} {ws : List Nat} (h : RowW w t g ws) (i : Nat) (v : Int) (x : Nat) (e : v = (x : Int)) : RowW (w.setCell ⟨g, i, none⟩ (.int .u32 v)) t g (ws.set i x) := by
  rw [e]; exact h.set i x
theorem sg0_val {x : Nat} (hx : x < 4294967296) : bits .xor .u32 (bits .xor .u32 ((rotN x 7 : Nat) : Int) ((rotN x 18 : Nat) : Int)) ((x : Int) / 8) = ((sg0 x : Nat) : Int) := by
  rw [xor32 _ _ (rotN_lt hx) (rotN_lt hx)]
  exact xor32 _ (x / 8) (xor_lt (rotN_lt hx) (rotN_lt hx)) (by omega)
theorem sg1_val {x : Nat} (hx : x < 4294967296) : bits .xor .u32 (bits .xor .u32 ((rotN x 17 : Nat) : Int) ((rotN x 19 : Nat) : Int)) ((x : Int) / 1024) = ((sg1 x : Nat) : Int) := by
  rw [xor32 _ _ (rotN_lt hx) (rotN_lt hx)]
  exact xor32 _ (x / 1024) (xor_lt (rotN_lt hx) (rotN_lt hx)) (by omega)
theorem nextW_at {ws : List Nat} {j a b c d : Nat} (hl : ws.length = j + 16) (ha : ws.getD j 0 = a) (hb : ws.getD (j + 1) 0 = b) (hc : ws.getD (j + 9) 0 = c) (hd : ws.getD (j + 14) 0 = d) :
    nextW ws = (a + sg0 b + c + sg1 d) % 4294967296 := by
  unfold nextW
  rw [hl, show j + 16 - 16 = j by omega, show j + 16 - 15 = j + 1 by omega, show j + 16 - 7 = j + 9 by omega, show j + 16 - 2 = j + 14 by omega, ha, hb, hc, hd]
theorem load_agg {P : Program} {w : World} {t g : Nat} {ws : List Nat} (h : RowW w t g ws) (n : Nat) (e : TypeId) (hu : P.underlying t = some (.array n e)) (hi : (P.info? t).map (·.size) = some ws.length) :
    (loadVar t ⟨g, 0, none⟩).run P w = .ok (.agg (celW ws).toArray) w :=
  run_loadVar_row w g t t _ (0, 0) _ h hu rfl (by rw [hi]; simp [celW_length])
attribute [-simp] Tryd.isAgg53 Tryd.sizeOf53
set_option maxHeartbeats 1000000 in
theorem sched_any (ad : Addr) (bt : Nat → Nat) (cp : Nat) (w : World) (hB : Blk w ad bt) (hcp : 64 ≤ cp) (hcm : cp ≤ 9223372036854775807) :
    Calls Tryd.prog 42 #[.slice (some ad) 64 cp] w fun e w' => e = .returned (.agg (celW (schedN bt)).toArray) ∧ Below w.heap.size w w' := by
  have HB0 := Lib.hid hB
  clear hB
  go_enter Tryd.func42, Tryd.ntmps42
  go_wp2_with fail
  go_loopw [10] (fun s wr => ∃ k : Nat, k ≤ 16 ∧ s = .int .i64 k ∧ RowW wr 53 w.heap.size (List.replicate 64 0) ∧ RowW wr 53 (w.heap.size + 1) (headW bt k ++ List.replicate (64 - k) 0) ∧ Below w.heap.size w wr) (fun s _ => 16 - (intOf s).toNat)
  case atStart =>
    exact ⟨0, by omega, rfl, (RowW.new w 53 (List.replicate 64 0)).alloc _, RowW.new1 _ 53 (List.replicate 64 0) (alloc_sz _ _), ((Below.refl _ _).alloc (Nat.le_refl _) _).alloc (by simp) _⟩
  case round =>
    obtain ⟨k, hk, rfl, hr0, hr1, hb⟩ := hrel
    have HR0 := Lib.hid hr0
    have HR1 := Lib.hid hr1
    have HB := Lib.hid hb
    clear hr0 hr1 hb
    by_cases hlt : k < 16
    · have hk1 : (k : Int) < 16 := by omega
      have hk0 : (0 : Int) ≤ (k : Int) := by omega
      go_wp2_with fail
      have hBr := HB0.out.keep HB.out
      have cc : ∀ j, j < 4 → wr.cell? ((ad.add (4 * k)).add j) = some (.int .u8 (bt (4 * k + j) : Int)) := fun j hj => by rw [ad_add]; exact hBr.cell _ (by omega)
      have hwd := word_any (ad.add (4 * k)) (cp - 4 * k) (bt (4 * k)) (bt (4 * k + 1)) (bt (4 * k + 2)) (bt (4 * k + 3)) wr (hBr.byte _) (hBr.byte _) (hBr.byte _) (hBr.byte _) (hBr.cell _ (by omega)) (cc 1 (by omega)) (cc 2 (by omega)) (cc 3 (by omega))
      with_reducible refine hwd.mono ?_
      rintro e W1 ⟨rfl, hb⟩
      have HR2 := Lib.hid (HR0.out.keep hb)
      have HR3 := Lib.hid (HR1.out.keep hb)
      have HB1 := Lib.hid (bel_step HB.out hb)
      have HV : Hid (wordN (bt (4 * k)) (bt (4 * k + 1)) (bt (4 * k + 2)) (bt (4 * k + 3)) < 4294967296) := Lib.hid (wordN_lt (hBr.byte _) (hBr.byte _) (hBr.byte _) (hBr.byte _))
      clear hb hBr cc hwd HR0 HR1 HB
      generalize hv : wordN (bt (4 * k)) (bt (4 * k + 1)) (bt (4 * k + 2)) (bt (4 * k + 3)) = v at *
      have c0 := HR3.out.at_ (i := k) (x := 0) (get_zero (headW_length bt k) (by omega))
      have f0 := HR3.out.free k
      have HvE := Lib.hid hv
      clear hv
      go_wp2_with fail
      go_roundw
      case rel =>
        refine ⟨k + 1, by omega, by go_num, HR2.out.far _ (by simp), ?_, HB1.out.setCell (by simp) _⟩
        rw [headW_succ, ← set_mid _ (headW_length bt k) (by omega), HvE.out]
        exact HR3.out.set k v
      case measure => simp [intOf]; omega
    · have hkn : k = 16 := by omega
      subst hkn
      go_wp2_with fail
      go_loopw [5] (fun s wr => ∃ j : Nat, j ≤ 48 ∧ s = .int .i64 ((j : Int) + 16) ∧ RowW wr 53 w.heap.size (List.replicate 64 0) ∧ RowW wr 53 (w.heap.size + 1) (moreW j (headW bt 16) ++ List.replicate (64 - (j + 16)) 0) ∧ Below w.heap.size w wr) (fun s _ => 64 - (intOf s).toNat)
      case atStart => exact ⟨0, by omega, rfl, HR0.out, HR1.out, HB.out⟩
      case round =>
        clear HR0 HR1 HB
        obtain ⟨j, hj, rfl, hr0, hr1, hb⟩ := hrel
        have HL : Hid ((moreW j (headW bt 16)).length = j + 16) := Lib.hid (by rw [moreW_length, headW_length]; omega)
        have HW : Hid (∀ x ∈ moreW j (headW bt 16), x < 4294967296) := Lib.hid (moreW_lt j _ (headW_lt bt HB0.out.byte 16))
        have hnx := moreW_succ j (headW bt 16)
        obtain ⟨ws, hws⟩ : ∃ ws, ws = moreW j (headW bt 16) := ⟨_, rfl⟩
        rw [← hws] at HL HW hnx hr1
        have HX := Lib.hid hnx
        have HWS := Lib.hid hws.symm
        clear hnx hws
        have HR0 := Lib.hid hr0
        have HR1 := Lib.hid hr1
        have HB := Lib.hid hb
        clear hr0 hr1 hb
        by_cases hlt : j < 48
        · have hk1 : (j : Int) < 48 := by omega
          have hk0 : (0 : Int) ≤ (j : Int) := by omega
          have c16 := HR1.out.at_ (get_mid (m := 64 - (j + 16)) (show j < ws.length by rw [HL.out]; omega))
          have c15 := HR1.out.at_ (get_mid (m := 64 - (j + 16)) (show j + 1 < ws.length by rw [HL.out]; omega))
          have c7 := HR1.out.at_ (get_mid (m := 64 - (j + 16)) (show j + 9 < ws.length by rw [HL.out]; omega))
          have c2 := HR1.out.at_ (get_mid (m := 64 - (j + 16)) (show j + 14 < ws.length by rw [HL.out]; omega))
          have l15 := getD_lt HW.out (j + 1)
          have l2 := getD_lt HW.out (j + 14)
          generalize h16 : ws.getD j 0 = x16 at *
          generalize h15 : ws.getD (j + 1) 0 = x15 at *
          generalize h7 : ws.getD (j + 9) 0 = x7 at *
          generalize h2 : ws.getD (j + 14) 0 = x2 at *
          have HN := Lib.hid (nextW_at HL.out h16 h15 h7 h2)
          clear h16 h15 h7 h2
          have C16 := Lib.hid c16
          have C7 := Lib.hid c7
          have L15 := Lib.hid l15
          have L2 := Lib.hid l2
          clear c16 c7 l15 l2
          go_wp2_with fail
          go_quiet (fail)
          have hb1 : Below wr.heap.size wr (wr.drewN nq) := bel_drewN _ _ _
          have HB1 := Lib.hid hb1
          clear hb1 c15 c2
          generalize wr.drewN nq = w2 at *
          go_wp2_with fail
          with_reducible refine (rotate_7 x15 w2 L15.out).mono ?_
          rintro e W1 ⟨rfl, hb⟩
          have HB2 := Lib.hid (bel_step HB1.out hb)
          clear hb
          go_wp2_with fail
          with_reducible refine (rotate_18 x15 W1 L15.out).mono ?_
          rintro e W2 ⟨rfl, hb⟩
          have HB3 := Lib.hid (bel_step HB2.out hb)
          clear hb
          go_wp2_with fail
          with_reducible refine (rotate_17 x2 W2 L2.out).mono ?_
          rintro e W3 ⟨rfl, hb⟩
          have HB4 := Lib.hid (bel_step HB3.out hb)
          clear hb
          go_wp2_with fail
          with_reducible refine (rotate_19 x2 W3 L2.out).mono ?_
          rintro e W4 ⟨rfl, hb⟩
          have HB5 := Lib.hid (bel_step HB4.out hb)
          clear hb
          go_wp2_with fail
          have HR2 := Lib.hid (HR0.out.keep HB5.out)
          have HR3 := Lib.hid (HR1.out.keep HB5.out)
          have HB6 := Lib.hid (bel_step HB.out HB5.out)
          have e1 := cell_keep C16.out HB5.out
          have e3 := cell_keep C7.out HB5.out
          have c1 : ({ W4 with drawn := W4.drawn + 1 } : World).cell? _ = _ := e1
          have c3 : ({ W4 with drawn := W4.drawn + 1 } : World).cell? _ = _ := e3
          have hw16 : IntKind.i64.wrap (j : Int) = (j : Int) := by rw [IntKind.wrap_i64]; omega
          have hw7 : IntKind.i64.wrap ((j : Int) + 16 - 7) = (j : Int) + 9 := by rw [IntKind.wrap_i64]; omega
          have k1 : (j : Int) < 64 := by omega
          have k2 : (j : Int) + 9 < 64 := by omega
          have k3 : (j : Int) + 16 < 64 := by omega
          have k4 : (0 : Int) ≤ (j : Int) + 9 := by omega
          have k5 : (0 : Int) ≤ (j : Int) + 16 := by omega
          have k6 : ((j : Int) + 9).toNat = j + 9 := by omega
          have k7 : ((j : Int) + 16).toNat = j + 16 := by omega
          refine wp_region_still_tail 15 (by kernel_rfl) (by kernel_rfl) ?_
          simp only [List.take_succ_cons, List.take_zero, List.drop_succ_cons, List.drop_zero]
          repeat still_step
          refine wpStill_nil ?_
          clear c1 c3 e1 e3 hw16 hw7
          have d3 : W4.drew.cell? ⟨w.heap.size + 1, j + 16, none⟩ = _ := HR3.out.at_ (get_zero HL.out (by omega))
          have d4 : W4.drew.frozen? ⟨w.heap.size + 1, j + 16, none⟩ = _ := HR3.out.free (j + 16)
          have HR4 := Lib.hid (show RowW W4.drew 53 w.heap.size (List.replicate 64 0) from HR2.out)
          have HR5 := Lib.hid (show RowW W4.drew 53 (w.heap.size + 1) (ws ++ List.replicate (64 - (j + 16)) 0) from HR3.out)
          have HB7 := Lib.hid (show Below w.heap.size w W4.drew from HB6.out.drew)
          clear HR0 HR1 HR2 HR3 HB HB1 HB2 HB3 HB4 HB5 HB6 C16 C7
          change wpList _ _ _ _ _ W4.drew
          generalize W4.drew = w5 at *
          go_wp2_with fail
          refine ⟨?_, ?measure⟩
          (repeat apply Exists.intro)
          refine ⟨?rel, rfl⟩
          case rel =>
            refine ⟨j + 1, by omega, by go_num, HR4.out.far _ (by simp), ?_, HB7.out.setCell (by simp) _⟩
            rw [HX.out, show j + 1 + 16 = j + 16 + 1 by omega, ← set_mid _ HL.out (by omega)]
            refine HR5.out.put (j + 16) _ _ ?_
            rw [HN.out]
            have q1 := sg0_val L15.out
            have q2 := sg1_val L2.out
            rw [q1, q2]
            have := sg0_lt L15.out
            have := sg1_lt L2.out
            omega
          case measure => simp [intOf]; omega
        · have hkn : j = 48 := by omega
          subst hkn
          go_wp2_with fail
          have hlc := run_loadW (P := Tryd.prog) HR1.out 64 (by simp [HL.out])
          simp only [Tryd.isAgg53, Tryd.sizeOf53, Result.andThen, ↓reduceIte, hlc]
          rw [Oper.upon_value]
          go_wp2_with fail
          have hsc := run_storeW (P := Tryd.prog) (ws := ws) HR0.out (by simp [HL.out])
          have hsz : (celW ws).length = 64 := by rw [celW_length, HL.out]
          simp only [Tryd.sizeOf53, Result.andThen, ↓reduceIte, hsc, hsz]
          rw [Oper.upon_skip]
          go_wp2_with fail
          refine bodyPost_ret (v := .agg (celW ws).toArray) ?_ rfl ⟨?_, bel_setRow HB.out (Nat.le_refl _) _⟩
          · exact results_cell_row rfl _ _ w.heap.size 53 _ (0, 0) _ rfl (HR0.out.row ws) Tryd.underlying53 rfl (by rw [show (celW ws).toArray.size = 64 by simp [hsz]]; kernel_rfl)
          · rw [schedN, HWS.out]
end Go.Proofs.YtliflbelhogopaaDoor
