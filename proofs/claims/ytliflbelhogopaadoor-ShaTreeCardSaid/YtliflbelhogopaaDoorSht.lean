/- The reference's Sum. -/
import Derived.Test.YtliflbelhogopaaDoorShs
namespace Go.Proofs.YtliflbelhogopaaDoor
set_option maxRecDepth 8000
open Go.RowKit
attribute [local simp] z32_ne z32_run
attribute [-simp] Tryd.zeroValue26 Tryd.isAgg26 Tryd.sizeOf26 Tryd.isAgg36 Tryd.sizeOf36
theorem ch_size (s : Ch) : (Tryd.prog.info? 36).map (·.size) = some (celW (chL s)).toArray.size := by rw [List.size_toArray, celW_length, chL_length]; kernel_rfl
theorem exec_loadC {ev : Operand → Value} {o : Oper} {w : World} {x : Operand} {g t : Nat} {s : Ch} (h : RowW w t g (chL s)) (ho : o.op = .load 36 x) (hx : ev x = .pointer (some ⟨g, 0, none⟩)) :
    (execOp ev o).run Tryd.prog w = .ok (.value (.agg (celW (chL s)).toArray)) w := exec_loadRow g _ ho hx h Tryd.underlying36 (ch_size s)
theorem blk_drop {p : List Nat} {w : World} {ad : Addr} {n c j : Nat} (h : Sb w (some ad) n c p) (hj : 64 * j + 64 ≤ n) : Blk w (ad.add (64 * j)) (blkF p j) :=
  ⟨fun i => blkF_lt h.byte j i, fun i hi => by
    have := h.at_ (i := 64 * j + i) (by omega)
    rw [ad_add]
    exact this⟩
set_option maxHeartbeats 2000000 in
theorem rsum_any (A : Option Addr) (n c : Nat) (bs : List Nat) (w : World) (h : Sb w A n c bs) (hn : n ≤ 60000) (R : List Nat) (hR : shaN bs = R) :
    Calls Tryd.prog 14 #[.slice A n c] w fun e w' => e = .returned (.agg (celB R).toArray) ∧ Below w.heap.size w w' := by
  have hl : R.length = 32 := by rw [← hR]; exact shaN_length _
  have HR := Lib.hid (show digN (stN ch0 (msgN bs) (nblk n)) 32 = R by rw [← hR, h.len]; rfl)
  have HS := Lib.hid h
  clear hR h
  go_enter Tryd.func14, Tryd.ntmps14
  go_wp2_with fail
  refine calls_named1 (fun w1 hb1 g0 hlt1 => ?_)
  have H0 : Hid (RowB w1 26 w.heap.size (List.replicate 32 0)) := Lib.hid g0
  have HB1 := Lib.hid hb1
  have HS1 := Lib.hid (HS.out.keep hb1)
  clear g0 hb1 HS
  refine (rinitial_any w1).mono ?_
  rintro e W2 ⟨rfl, hb⟩
  have H02 := Lib.hid (H0.out.keep hb)
  have HB2 := Lib.hid (bel_step HB1.out hb)
  have HS2 := Lib.hid (HS1.out.keep hb)
  clear hb H0 HB1 HS1
  go_wp2_with fail
  refine (rpad_any A n c bs W2 HS2.out hn).mono ?_
  rintro e W3 ⟨C, f, rfl, hs3, hb⟩
  have H03 := Lib.hid (H02.out.keep hb)
  have HB3 := Lib.hid (bel_step HB2.out hb)
  have HP3 := Lib.hid hs3
  have hcap := hs3.cap
  have htop := hs3.top
  obtain ⟨ad, rfl⟩ := hs3.some_ (by unfold nblk; omega)
  clear hb H02 HB2 HS2 hs3
  have hk8 : nblk n ≤ 1000 := by unfold nblk; omega
  generalize nblk n = K at *
  generalize msgN bs = p at *
  have hsc := run_storeCells_new (P := Tryd.prog) W3 36 #[.int .u32 0, .int .u32 0, .int .u32 0, .int .u32 0, .int .u32 0, .int .u32 0, .int .u32 0, .int .u32 0] (celW (chL ch0)).toArray (by kernel_rfl) rfl celW_one
  have hsz : (celW (chL ch0)).length = 8 := rfl
  generalize hcs : celW (chL ch0) = cs at *
  go_wp2_with fail
  simp only [Tryd.sizeOf36, Result.andThen, ↓reduceIte, hsc, hsz]
  rw [Oper.upon_skip]
  clear hsc
  go_wp2_with fail
  refine wp_named1 (fun W4 hb4 g0 hlt4 => ?_)
  have H04 := Lib.hid (H03.out.keep hb4)
  have HB4 := Lib.hid (bel_step HB3.out hb4)
  have HP4 := Lib.hid (HP3.out.keep hb4)
  have HC4 : Hid (RowW W4 36 W3.heap.size (chL ch0)) := Lib.hid (by unfold RowW; rw [hcs]; exact g0)
  have hz : w.heap.size < W3.heap.size := H03.out.lt
  clear g0 hb4 hlt4 H03 HB3 HP3 hcs hsz
  generalize W3.heap.size = g at *
  obtain ⟨L, hL⟩ : ∃ L, L = 64 * K := ⟨_, rfl⟩
  rw [← hL] at HP4 hcap ⊢
  have HLK := Lib.hid hL
  have hLs : L ≤ 64000 := by omega
  clear hL
  go_loopw [5] (fun s wr => ∃ j i : Nat, j ≤ K ∧ i = 64 * j ∧ s = .int .i64 i ∧ RowW wr 36 g (chL (stN ch0 p j)) ∧ RowB wr 26 w.heap.size (List.replicate 32 0) ∧ Sb wr (some ad) L f p ∧ Below w.heap.size w wr) (fun s _ => L - (intOf s).toNat)
  case atStart => exact ⟨0, 0, by omega, rfl, rfl, HC4.out, H04.out, HP4.out, HB4.out⟩
  case round =>
    clear HC4 H04 HP4 HB4
    obtain ⟨j, i, hj, hi, rfl, hc, h0, hp, hb⟩ := hrel
    have HI := Lib.hid hi
    have HC := Lib.hid hc
    have H0 := Lib.hid h0
    have HP := Lib.hid hp
    have HB := Lib.hid hb
    clear hc h0 hp hb
    by_cases hlt : j < K
    · have hiL : i + 64 ≤ L := by have := HLK.out; omega
      have hk1 : (i : Int) < (L : Int) := by omega
      have hk0 : (0 : Int) ≤ (i : Int) := by omega
      have hne : ¬ f = i := by omega
      have hw1 : IntKind.i64.wrap ((i : Int) + 64) = (i : Int) + 64 := by rw [IntKind.wrap_i64]; omega
      have hk2 : (i : Int) + 64 ≤ (f : Int) := by omega
      have hk3 : ((i : Int) + 64).toNat = i + 64 := by omega
      have hk4 : (0 : Int) ≤ (i : Int) + 64 := by omega
      have hk5 : (i : Int) ≤ (i : Int) + 64 := by omega
      have hk6 : i + 64 - i = 64 := by omega
      clear hi
      go_wp2_with fail
      refine wp_later_tail 7 (by kernel_rfl) (by kernel_rfl) ?_
      simp only [List.take_succ_cons, List.take_zero, List.drop_succ_cons, List.drop_zero]
      refine wpQuiet_val (by kernel_rfl) _ (fun v hv => by obtain ⟨X, rfl⟩ := hv; exact exec_loadC (HC.out.keep X.below) rfl rfl) ?_
      simp only [Act.put, List.setIfInBounds_toArray, List.set_cons_zero, List.set_cons_succ]
      have hB : ∀ X : Later wr, Blk X.at (ad.add i) (blkF p j) := fun X => by
        rw [HI.out]
        exact blk_drop (HP.out.keep X.below) (by have := HI.out; omega)
      generalize hS : stN ch0 p j = S at *
      have hok : S.Ok := by rw [← hS]; exact stN_ok ch0_ok _ _
      have HST := Lib.hid (show stN ch0 p (j + 1) = compN S (blkF p j) by rw [stN, hS])
      clear hS
      repeat (go_big_quiet_step ((go_at_call 24; with_reducible exact Calls.later (rcomp_any S (ad.add i) (blkF p j) (f - i) _ hok (hB _) (by omega) (by omega)))))
      refine wpQuiet_nil ?_
      intro X
      have HC5 := Lib.hid (HC.out.keep X.below)
      have H05 := Lib.hid (H0.out.keep X.below)
      have HP5 := Lib.hid (HP.out.keep X.below)
      have HB5 := Lib.hid (bel_step HB.out X.below)
      generalize X.at = w5 at *
      generalize compN S (blkF p j) = T at *
      clear HC H0 HP HB hB
      refine wpList_skip0 rfl (w5.setRow g (celW (chL T)).toArray) (exec_storeRow g _ _ rfl rfl rfl HC5.out (ch_size T) (by rw [List.size_toArray, List.size_toArray, celW_length, celW_length, chL_length, chL_length]) celW_one) ?_
      refine wpList_nil ?_
      simp only [Act.put, List.setIfInBounds_toArray, List.set_cons_zero, List.set_cons_succ]
      have HC6 := Lib.hid (HC5.out.row (chL T))
      have H06 := Lib.hid (H05.out.farRow (show w.heap.size ≠ g by omega) (celW (chL T)).toArray)
      have hb6 : Below g w5 (w5.setRow g (celW (chL T)).toArray) := bel_setRow (Below.refl _ _) (Nat.le_refl _) _
      have HB6 := Lib.hid (bel_setRow HB5.out (show w.heap.size ≤ g by omega) (celW (chL T)).toArray)
      have HP6 : Hid (Sb (w5.setRow g (celW (chL T)).toArray) (some ad) L f p) := Lib.hid (HP5.out.keepX HC5.out ((SameX.refl g w5).row _))
      clear HC5 H05 HB5 HP5 hb6
      generalize w5.setRow g (celW (chL T)).toArray = w6 at *
      go_wp2_with fail
      go_roundw
      case rel => exact ⟨j + 1, i + 64, hlt, by have := HI.out; omega, by go_num, by rw [HST.out]; exact HC6.out, H06.out, HP6.out, HB6.out⟩
      case measure => simp [intOf]; omega
    · obtain rfl : j = K := by omega
      obtain rfl : i = L := by have := HI.out; have := HLK.out; omega
      have hld := run_loadW (P := Tryd.prog) HC.out 8 (by rw [chL_length])
      generalize hS : stN ch0 p j = S at *
      have hok : S.Ok := by rw [← hS]; exact stN_ok ch0_ok _ _
      clear hS
      go_wp2_with fail
      simp only [Tryd.isAgg36, Tryd.sizeOf36, Result.andThen, ↓reduceIte, hld]
      rw [Oper.upon_value]
      clear hld
      go_wp2_with fail
      refine (rdigest_any S wr hok).mono ?_
      rintro e W6 ⟨rfl, hb6⟩
      have H06 := Lib.hid (H0.out.keep hb6)
      have HB6 := Lib.hid (bel_step HB.out hb6)
      rw [HR.out]
      clear hb6
      have hsc := run_storeB (P := Tryd.prog) (ws := R) H06.out (by rw [hl, List.length_replicate])
      have hsz : (celB R).length = 32 := by rw [celB_length, hl]
      go_wp2_with fail
      simp only [Tryd.sizeOf26, Result.andThen, ↓reduceIte, hsc]
      rw [Oper.upon_skip]
      go_wp2_with fail
      refine bodyPost_ret (v := .agg (celB R).toArray) ?_ rfl ⟨rfl, bel_setRow HB6.out (Nat.le_refl _) _⟩
      exact results_cell_row rfl _ _ w.heap.size 26 _ (0, 0) _ rfl (H06.out.row R) Tryd.underlying26 rfl (dig_size hl)
end Go.Proofs.YtliflbelhogopaaDoor
