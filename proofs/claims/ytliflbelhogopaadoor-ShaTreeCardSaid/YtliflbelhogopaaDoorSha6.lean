/- The reference's schedule. -/
import Derived.Test.YtliflbelhogopaaDoorSha4
namespace Go.Proofs.YtliflbelhogopaaDoor
set_option maxRecDepth 8000
open Go.RowKit
/-- the first n words of the schedule -/
def schI (b : Nat → Nat) : Nat → List Nat
  | 0 => []
  | n + 1 => schI b n ++ [if n < 16 then wordN (b (4 * n)) (b (4 * n + 1)) (b (4 * n + 2)) (b (4 * n + 3)) else nextW (schI b n)]
theorem schI_length (b : Nat → Nat) (n : Nat) : (schI b n).length = n := by
  induction n with
  | zero => rfl
  | succ n ih => rw [schI]; simp [ih]
theorem schI_head (b : Nat → Nat) (n : Nat) (hn : n ≤ 16) : schI b n = headW b n := by
  induction n with
  | zero => rfl
  | succ n ih => rw [schI, headW_succ, ih (by omega), if_pos (by omega)]
theorem schI_more (b : Nat → Nat) (k : Nat) : schI b (16 + k) = moreW k (headW b 16) := by
  induction k with
  | zero => exact schI_head b 16 (by omega)
  | succ k ih => rw [show 16 + (k + 1) = (16 + k) + 1 by omega, schI, moreW_succ, ih, if_neg (by omega)]
theorem schI_all (b : Nat → Nat) : schI b 64 = schedN b := schI_more b 48
theorem schI_lt (b : Nat → Nat) (hb : ∀ i, b i < 256) (n : Nat) : ∀ x ∈ schI b n, x < 4294967296 := by
  by_cases h : n ≤ 16
  · rw [schI_head b n h]; exact headW_lt b hb n
  · rw [show n = 16 + (n - 16) by omega, schI_more]; exact moreW_lt _ _ (headW_lt b hb 16)
attribute [local simp] z64_ne z64_run
attribute [-simp] Tryd.zeroValue53 Tryd.isAgg53 Tryd.sizeOf53
set_option maxHeartbeats 1000000 in
theorem rsched_any (ad : Addr) (bt : Nat → Nat) (cp : Nat) (w : World) (hB : Blk w ad bt) (hcp : 64 ≤ cp) (hcm : cp ≤ 9223372036854775807) :
    Calls Tryd.prog 33 #[.slice (some ad) 64 cp] w fun e w' => e = .returned (.agg (celW (schedN bt)).toArray) ∧ Below w.heap.size w w' := by
  have HB0 := Lib.hid hB
  clear hB
  go_enter Tryd.func33, Tryd.ntmps33
  go_wp2_with fail
  have hsc := run_storeCells_new (P := Tryd.prog) (w.alloc (.cells z64 53)) 53 z64 z64 (by rw [z64_size]; kernel_rfl) rfl celW_one
  rw [alloc_sz] at hsc
  simp only [Tryd.sizeOf53, Result.andThen, ↓reduceIte, hsc, z64_size]
  rw [Oper.upon_skip]
  clear hsc
  go_wp2_with fail
  refine wp_named2 (fun w1 hb1 g0 g1 hlt1 => ?_)
  have hr0 : RowW w1 53 w.heap.size (List.replicate 64 0) := g0
  have hr1 : RowW w1 53 (w.heap.size + 1) (List.replicate 64 0) := g1
  have HR0 := Lib.hid hr0
  have HR1 := Lib.hid hr1
  have HB1 := Lib.hid hb1
  clear g0 g1 hlt1 hr0 hr1 hb1
  go_loopw [4] (fun s0 wr => ∃ i : Nat, i ≤ 64 ∧ s0 = .int .i64 i ∧ RowW wr 53 w.heap.size (List.replicate 64 0) ∧ RowW wr 53 (w.heap.size + 1) (schI bt i ++ List.replicate (64 - i) 0) ∧ Below w.heap.size w wr) (fun s0 _ => 64 - (intOf s0).toNat)
  case atStart => exact ⟨0, by omega, rfl, HR0.out, HR1.out, HB1.out⟩
  case round =>
    clear HR0 HR1 HB1
    obtain ⟨i, hi, rfl, hr0, hr1, hb⟩ := hrel
    have HL := Lib.hid (schI_length bt i)
    have HW := Lib.hid (schI_lt bt HB0.out.byte i)
    have HR0 := Lib.hid hr0
    have HR1 := Lib.hid hr1
    have HB := Lib.hid hb
    clear hr0 hr1 hb
    by_cases hlt : i < 16
    · have hk1 : (i : Int) < 64 := by omega
      have hk2 : (i : Int) < 16 := by omega
      have hk0 : (0 : Int) ≤ (i : Int) := by omega
      have hBr := HB0.out.keep HB.out
      have v0 := hBr.byte (4 * i)
      have v1 := hBr.byte (4 * i + 1)
      have v2 := hBr.byte (4 * i + 2)
      have v3 := hBr.byte (4 * i + 3)
      have e0 := hBr.cell (4 * i) (by omega)
      have e1 := hBr.cell (4 * i + 1) (by omega)
      have e2 := hBr.cell (4 * i + 2) (by omega)
      have e3 := hBr.cell (4 * i + 3) (by omega)
      have hx : schI bt (i + 1) = schI bt i ++ [wordN (bt (4 * i)) (bt (4 * i + 1)) (bt (4 * i + 2)) (bt (4 * i + 3))] := by rw [schI, if_pos hlt]
      generalize hb0 : bt (4 * i) = b0 at *
      generalize hb1 : bt (4 * i + 1) = b1 at *
      generalize hb2 : bt (4 * i + 2) = b2 at *
      generalize hb3 : bt (4 * i + 3) = b3 at *
      have HX := Lib.hid hx
      clear hx hBr hb0 hb1 hb2 hb3
      go_wp2_with fail
      have kv0 : IntKind.u32.wrap (b0 : Int) = (b0 : Int) := by rw [IntKind.wrap_u32]; omega
      have kv1 : IntKind.u32.wrap (b1 : Int) = (b1 : Int) := by rw [IntKind.wrap_u32]; omega
      have kv2 : IntKind.u32.wrap (b2 : Int) = (b2 : Int) := by rw [IntKind.wrap_u32]; omega
      have kv3 : IntKind.u32.wrap (b3 : Int) = (b3 : Int) := by rw [IntKind.wrap_u32]; omega
      simp [Addr.add] at e1 e2 e3
      have c0 : ({ wr with drawn := wr.drawn + 1 } : World).cell? _ = _ := e0
      have c1 : ({ wr with drawn := wr.drawn + 1 } : World).cell? _ = _ := e1
      have c2 : ({ wr with drawn := wr.drawn + 1 } : World).cell? _ = _ := e2
      have c3 : ({ wr with drawn := wr.drawn + 1 } : World).cell? _ = _ := e3
      have k0 : ((4 : Int) * (i : Int)).toNat = 4 * i := by omega
      have k1 : ((4 : Int) * (i : Int) + 1).toNat = 4 * i + 1 := by omega
      have k2 : ((4 : Int) * (i : Int) + 2).toNat = 4 * i + 2 := by omega
      have k3 : ((4 : Int) * (i : Int) + 3).toNat = 4 * i + 3 := by omega
      have kw0 : IntKind.i64.wrap ((4 : Int) * (i : Int)) = (4 : Int) * (i : Int) := by rw [IntKind.wrap_i64]; omega
      have kn0 : (0 : Int) ≤ (4 : Int) * (i : Int) := by omega
      have km0 : (4 : Int) * (i : Int) < 64 := by omega
      have kw1 : IntKind.i64.wrap ((4 : Int) * (i : Int) + 1) = (4 : Int) * (i : Int) + 1 := by rw [IntKind.wrap_i64]; omega
      have kn1 : (0 : Int) ≤ (4 : Int) * (i : Int) + 1 := by omega
      have km1 : (4 : Int) * (i : Int) + 1 < 64 := by omega
      have kw2 : IntKind.i64.wrap ((4 : Int) * (i : Int) + 2) = (4 : Int) * (i : Int) + 2 := by rw [IntKind.wrap_i64]; omega
      have kn2 : (0 : Int) ≤ (4 : Int) * (i : Int) + 2 := by omega
      have km2 : (4 : Int) * (i : Int) + 2 < 64 := by omega
      have kw3 : IntKind.i64.wrap ((4 : Int) * (i : Int) + 3) = (4 : Int) * (i : Int) + 3 := by rw [IntKind.wrap_i64]; omega
      have kn3 : (0 : Int) ≤ (4 : Int) * (i : Int) + 3 := by omega
      have km3 : (4 : Int) * (i : Int) + 3 < 64 := by omega
      refine wp_region_still_tail 35 (by kernel_rfl) (by kernel_rfl) ?_
      simp only [List.take_succ_cons, List.take_zero, List.drop_succ_cons, List.drop_zero]
      repeat still_step
      refine wpStill_nil ?_
      clear c0 c1 c2 c3 e0 e1 e2 e3 kv0 kv1 kv2 kv3 kw0 kw1 kw2 kw3 kn0 kn1 kn2 kn3 km0 km1 km2 km3
      have d3 : wr.drew.cell? ⟨w.heap.size + 1, i, none⟩ = _ := HR1.out.at_ (get_zero HL.out (by omega))
      have d4 : wr.drew.frozen? ⟨w.heap.size + 1, i, none⟩ = _ := HR1.out.free i
      have HR4 := Lib.hid (show RowW wr.drew 53 w.heap.size (List.replicate 64 0) from HR0.out)
      have HR5 := Lib.hid (show RowW wr.drew 53 (w.heap.size + 1) (schI bt i ++ List.replicate (64 - i) 0) from HR1.out)
      have HB7 := Lib.hid (show Below w.heap.size w wr.drew from HB.out.drew)
      clear HR0 HR1 HB
      change wpList _ _ _ _ _ wr.drew
      generalize wr.drew = w5 at *
      go_wp2_with fail
      go_roundw
      case rel =>
        refine ⟨i + 1, by omega, by go_num, HR4.out.far _ (by simp), ?_, HB7.out.setCell (by simp) _⟩
        rw [HX.out, ← set_mid _ HL.out (by omega)]
        refine HR5.out.put i _ _ ?_
        unfold wordN
        omega
      case measure => simp [intOf]; omega
    · by_cases h64 : i < 64
      · obtain ⟨j, rfl⟩ : ∃ j, i = j + 16 := ⟨i - 16, by omega⟩
        have hx : schI bt (j + 16 + 1) = schI bt (j + 16) ++ [nextW (schI bt (j + 16))] := by rw [schI, if_neg hlt]
        generalize schI bt (j + 16) = ws at *
        have HX := Lib.hid hx
        clear hx
        have hk1 : (j : Int) < 48 := by omega
        have hk0 : (0 : Int) ≤ (j : Int) := by omega
        have hcast : ((j + 16 : Nat) : Int) = (j : Int) + 16 := by omega
        have c16 := HR1.out.at_ (get_mid (m := 64 - (j + 16)) (show j < ws.length by rw [HL.out]; omega))
        have c15 := HR1.out.at_ (get_mid (m := 64 - (j + 16)) (show j + 1 < ws.length by rw [HL.out]; omega))
        have c7 := HR1.out.at_ (get_mid (m := 64 - (j + 16)) (show j + 9 < ws.length by rw [HL.out]; omega))
        have c2 := HR1.out.at_ (get_mid (m := 64 - (j + 16)) (show j + 14 < ws.length by rw [HL.out]; omega))
        have l15 := getD_lt HW.out (j + 1)
        have l2 := getD_lt HW.out (j + 14)
        generalize h16 : ws.getD j 0 = x16 at *
        generalize h15 : ws.getD (j + 1) 0 = x15 at *
        generalize h7 : ws.getD (j + 9) 0 = x7 at *
        generalize h2 : ws.getD (j + 14) 0 = x2 at *
        have HN := Lib.hid (nextW_at HL.out h16 h15 h7 h2)
        clear h16 h15 h7 h2
        have C16 := Lib.hid c16
        have C7 := Lib.hid c7
        have L15 := Lib.hid l15
        have L2 := Lib.hid l2
        clear c16 c7 l15 l2
        rw [hcast]
        clear hcast
        go_wp2_with fail
        go_quiet (fail)
        have hb1 : Below wr.heap.size wr (wr.drewN nq) := bel_drewN _ _ _
        have HB1 := Lib.hid hb1
        clear hb1 c15 c2
        generalize wr.drewN nq = w2 at *
        go_wp2_with fail
        have c1 := Later.cell (cell_keep C16.out HB1.out)
        have c3 := Later.cell (cell_keep C7.out HB1.out)
        have hw16 : IntKind.i64.wrap (j : Int) = (j : Int) := by rw [IntKind.wrap_i64]; omega
        have hw7 : IntKind.i64.wrap ((j : Int) + 16 - 7) = (j : Int) + 9 := by rw [IntKind.wrap_i64]; omega
        have k1 : (j : Int) < 64 := by omega
        have k2 : (j : Int) + 9 < 64 := by omega
        have k3 : (j : Int) + 16 < 64 := by omega
        have k4 : (0 : Int) ≤ (j : Int) + 9 := by omega
        have k5 : (0 : Int) ≤ (j : Int) + 16 := by omega
        have k6 : ((j : Int) + 9).toNat = j + 9 := by omega
        have k7 : ((j : Int) + 16).toNat = j + 16 := by omega
        refine wp_later_tail 29 (by kernel_rfl) (by kernel_rfl) ?_
        simp only [List.take_succ_cons, List.take_zero, List.drop_succ_cons, List.drop_zero]
        repeat (go_big_quiet_step (first | (go_at_call 35; with_reducible exact Calls.later (rrotate_7 x15 _ L15.out)) | (go_at_call 35; with_reducible exact Calls.later (rrotate_18 x15 _ L15.out)) | (go_at_call 35; with_reducible exact Calls.later (rrotate_17 x2 _ L2.out)) | (go_at_call 35; with_reducible exact Calls.later (rrotate_19 x2 _ L2.out))))
        refine wpQuiet_nil ?_
        intro X
        clear c1 c3 hw16 hw7
        have HB5 := Lib.hid (bel_step HB1.out X.below)
        generalize X.at = w5 at *
        have HR4 := Lib.hid (HR0.out.keep HB5.out)
        have HR5 := Lib.hid (HR1.out.keep HB5.out)
        have HB7 := Lib.hid (bel_step HB.out HB5.out)
        have d3 := HR5.out.at_ (get_zero HL.out (show j + 16 < 64 by omega))
        have d4 := HR5.out.free (j + 16)
        clear HR0 HR1 HB HB1 HB5 C16 C7
        go_wp2_with fail
        go_roundw
        case rel =>
          refine ⟨j + 16 + 1, by omega, by go_num, HR4.out.far _ (by simp), ?_, HB7.out.setCell (by simp) _⟩
          rw [HX.out, ← set_mid _ HL.out (by omega)]
          refine HR5.out.put (j + 16) _ _ ?_
          rw [HN.out]
          have q1 := sg0_val L15.out
          have q2 := sg1_val L2.out
          rw [q1, q2]
          have := sg0_lt L15.out
          have := sg1_lt L2.out
          omega
        case measure => simp [intOf]; omega
      · obtain rfl : i = 64 := by omega
        have hlc := run_loadW (P := Tryd.prog) HR1.out 64 (by simp [HL.out])
        have hsz : (celW (schI bt 64)).length = 64 := by rw [celW_length, HL.out]
        have hsc := run_storeW (P := Tryd.prog) (ws := schI bt 64) HR0.out (by simp [HL.out])
        have HA := Lib.hid (schI_all bt)
        generalize schI bt 64 = ws at *
        go_wp2_with fail
        simp only [Tryd.isAgg53, Tryd.sizeOf53, Result.andThen, ↓reduceIte, hlc]
        rw [Oper.upon_value]
        go_wp2_with fail
        simp only [Tryd.sizeOf53, Result.andThen, ↓reduceIte, hsc]
        rw [Oper.upon_skip]
        go_wp2_with fail
        refine bodyPost_ret (v := .agg (celW ws).toArray) ?_ rfl ⟨by rw [HA.out], bel_setRow HB.out (Nat.le_refl _) _⟩
        exact results_cell_row rfl _ _ w.heap.size 53 _ (0, 0) _ rfl (HR0.out.row ws) Tryd.underlying53 rfl (by rw [show (celW ws).toArray.size = 64 by simp [hsz]]; kernel_rfl)
end Go.Proofs.YtliflbelhogopaaDoor
