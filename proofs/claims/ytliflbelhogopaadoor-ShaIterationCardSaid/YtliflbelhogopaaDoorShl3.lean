/- The walk of ShaIteration. -/
import Derived.Test.YtliflbelhogopaaDoorShl5
namespace Go.Proofs.YtliflbelhogopaaDoor
set_option maxRecDepth 8000
open Go.RowKit
attribute [local simp] z32_ne z32_run
attribute [-simp] Tryd.zeroValue26 Tryd.isAgg26 Tryd.sizeOf26 Tryd.isAgg36 Tryd.sizeOf36
set_option maxHeartbeats 4000000 in
theorem shaIteration_any (A : Option Addr) (n c : Nat) (bs : List Nat) (at' : Nat) (w : World) (h : Sb w A n c bs) (hat : at' ≤ 255) (hG : Gl w) :
    Calls Tryd.prog 5 #[.slice A n c, .int .u8 (at' : Int)] w fun e w' => e = .returned (.bool true) ∧ Below w.heap.size w w' := by
  obtain ⟨m, hm, hmn, hm4⟩ := min400 n 400
  have hm' : (if (400 : Int) < (n : Int) then (400 : Int) else (n : Int)) = (m : Int) := hm
  clear hm
  have hcap := h.cap
  have hcm := h.top
  have hS := h.take hmn
  obtain ⟨bt, hbt⟩ : ∃ bt, bs.take m = bt := ⟨_, rfl⟩
  rw [hbt] at hS
  obtain ⟨R, hR⟩ : ∃ R, shaN bt = R := ⟨_, rfl⟩
  have hRl : R.length = 32 := by rw [← hR]; exact shaN_length _
  have hRb : ∀ x ∈ R, x < 256 := by rw [← hR]; exact shaN_lt _
  have HD := Lib.hid (show digN (stN ch0 (msgN bt) (nblk m)) 32 = R by rw [← hR, hS.len]; rfl)
  have HR := Lib.hid hR
  have HRL := Lib.hid hRl
  have HRB := Lib.hid hRb
  have HS := Lib.hid hS
  have HG := Lib.hid hG
  clear h hG hS hbt hR hRl hRb
  go_enter Tryd.func5, Tryd.ntmps5
  go_wp2_with fail
  refine (sanity7_any w HG.out).mono ?_
  rintro e W1 ⟨rfl, hb1⟩
  have HB1 := Lib.hid hb1
  have HS1 := Lib.hid (HS.out.keep hb1)
  clear hb1 HS
  go_wp2_with fail
  refine (rpad_any A m c bt W1 HS1.out (by omega)).mono ?_
  rintro e W2 ⟨C, f, rfl, hs3, hb⟩
  have HB2 := Lib.hid (bel_step HB1.out hb)
  have HS2 := Lib.hid (HS1.out.keep hb)
  have HP2 := Lib.hid hs3
  have hcap2 := hs3.cap
  have htop2 := hs3.top
  obtain ⟨ad, rfl⟩ := hs3.some_ (by unfold nblk; omega)
  clear hb HB1 HS1 hs3
  have hk8 : nblk m ≤ 1000 := by unfold nblk; omega
  generalize nblk m = K at *
  generalize msgN bt = p at *
  obtain ⟨k, hk⟩ : ∃ k : Nat, k = at' % (K + 1) := ⟨_, rfl⟩
  have hkK : k ≤ K := by have := Nat.mod_lt at' (show 0 < K + 1 by omega); omega
  have hrem : Int.tmod (at' : Int) ((K : Int) + 1) = (k : Int) := by rw [Int.tmod_eq_emod_of_nonneg (by omega), hk, Int.natCast_emod]; rfl
  obtain ⟨L, hL⟩ : ∃ L, L = 64 * K := ⟨_, rfl⟩
  rw [← hL] at HP2 hcap2 ⊢
  have hquo : Int.tdiv (L : Int) 64 = (K : Int) := by rw [Int.tdiv_eq_ediv_of_nonneg (by omega)]; omega
  have hmod : Int.tmod (L : Int) 64 = 0 := by rw [Int.tmod_eq_emod_of_nonneg (by omega)]; omega
  have HLK := Lib.hid hL
  have hLs : L ≤ 64000 := by omega
  have hne0 : ¬ ((K : Int) + 1 = 0) := by omega
  have hw1 : IntKind.i64.wrap ((K : Int) + 1) = (K : Int) + 1 := by rw [IntKind.wrap_i64]; omega
  have hw2 : IntKind.i64.wrap (K : Int) = (K : Int) := by rw [IntKind.wrap_i64]; omega
  have hw3 : IntKind.i64.wrap (k : Int) = (k : Int) := by rw [IntKind.wrap_i64]; omega
  clear hL hk
  go_wp2_with fail
  refine (rinitial_any W2).mono ?_
  rintro e W3 ⟨rfl, hb⟩
  have HB3 := Lib.hid (bel_step HB2.out hb)
  have HS3 := Lib.hid (HS2.out.keep hb)
  have HP3 := Lib.hid (HP2.out.keep hb)
  clear hb HB2 HS2 HP2
  have hsc := run_storeCells_new (P := Tryd.prog) W3 36 #[.int .u32 0, .int .u32 0, .int .u32 0, .int .u32 0, .int .u32 0, .int .u32 0, .int .u32 0, .int .u32 0] (celW (chL ch0)).toArray (by kernel_rfl) rfl celW_one
  have hsz : (celW (chL ch0)).length = 8 := rfl
  generalize hcs : celW (chL ch0) = cs at *
  go_wp2_with fail
  simp only [Tryd.sizeOf36, Result.andThen, ↓reduceIte, hsc, hsz]
  rw [Oper.upon_skip]
  clear hsc
  go_wp2_with fail
  refine wp_named1 (fun W4 hb4 g0 hlt4 => ?_)
  have HB4 := Lib.hid (bel_step HB3.out hb4)
  have HS4 := Lib.hid (HS3.out.keep hb4)
  have HP4 := Lib.hid (HP3.out.keep hb4)
  have HC4 : Hid (RowW W4 36 W3.heap.size (chL ch0)) := Lib.hid (by unfold RowW; rw [hcs]; exact g0)
  have hz : w.heap.size ≤ W3.heap.size := HB3.out.size
  clear g0 hb4 hlt4 HB3 HS3 HP3 hcs hsz hrem hquo hne0 hw1 hw2
  generalize W3.heap.size = g at *
  go_loopw [10] (fun s wr => ∃ j i : Nat, j ≤ k ∧ i = 64 * j ∧ 0 ≤ j ∧ s = .int .i64 j ∧ RowW wr 36 g (chL (stN ch0 p j)) ∧ Sb wr (some ad) L f p ∧ Sb wr A m c bt ∧ Below w.heap.size w wr) (fun s _ => k - (intOf s).toNat)
  case atStart => exact ⟨0, 64 * 0, by omega, rfl, Nat.le_refl _, rfl, HC4.out, HP4.out, HS4.out, HB4.out⟩
  case round =>
    clear HC4 HP4 HS4 HB4
    obtain ⟨j, i, hj, hi, hj0, rfl, hc, hP, hS, hB⟩ := hrel
    have HI := Lib.hid hi
    have HC := Lib.hid hc
    have HP := Lib.hid hP
    have HS := Lib.hid hS
    have HB := Lib.hid hB
    clear hc hP hS hB
    have hk0 : (0 : Int) ≤ (j : Int) := by omega
    by_cases hlt : j < k
    · have hiL : i + 64 ≤ L := by have := HLK.out; omega
      have hk1 : (j : Int) < (k : Int) := by omega
      have hmul : (64 : Int) * (j : Int) = (i : Int) := by omega
      have hi0 : (0 : Int) ≤ (i : Int) := by omega
      have hne : ¬ f = i := by omega
      have hw0 : IntKind.i64.wrap (i : Int) = (i : Int) := by rw [IntKind.wrap_i64]; omega
      have hw1 : IntKind.i64.wrap ((i : Int) + 64) = (i : Int) + 64 := by rw [IntKind.wrap_i64]; omega
      have hk2 : (i : Int) + 64 ≤ (f : Int) := by omega
      have hk3 : ((i : Int) + 64).toNat = i + 64 := by omega
      have hk4 : (0 : Int) ≤ (i : Int) + 64 := by omega
      have hk5 : (i : Int) ≤ (i : Int) + 64 := by omega
      have hk6 : i + 64 - i = 64 := by omega
      clear hi
      go_wp2_with fail
      refine wp_later_tail 9 (by kernel_rfl) (by kernel_rfl) ?_
      simp only [List.take_succ_cons, List.take_zero, List.drop_succ_cons, List.drop_zero]
      refine wpQuiet_val (by kernel_rfl) _ (fun v hv => by obtain ⟨X, rfl⟩ := hv; exact exec_loadC (HC.out.keep X.below) rfl rfl) ?_
      simp only [Act.put, List.setIfInBounds_toArray, List.set_cons_zero, List.set_cons_succ]
      have hB : ∀ X : Later wr, Blk X.at (ad.add i) (blkF p j) := fun X => by
        rw [HI.out]
        exact blk_drop (HP.out.keep X.below) (by have := HI.out; omega)
      generalize hS : stN ch0 p j = S at *
      have hok : S.Ok := by rw [← hS]; exact stN_ok ch0_ok _ _
      have HST := Lib.hid (show stN ch0 p (j + 1) = compN S (blkF p j) by rw [stN, hS])
      clear hS
      repeat (go_big_quiet_step ((go_at_call 24; with_reducible exact Calls.later (rcomp_any S (ad.add i) (blkF p j) (f - i) _ hok (hB _) (by omega) (by omega)))))
      refine wpQuiet_nil ?_
      intro X
      have HC5 := Lib.hid (HC.out.keep X.below)
      have HP5 := Lib.hid (HP.out.keep X.below)
      have HS5 := Lib.hid (HS.out.keep X.below)
      have HB5 := Lib.hid (bel_step HB.out X.below)
      generalize X.at = w5 at *
      generalize compN S (blkF p j) = T at *
      clear HC HP HS HB hB
      refine wpList_skip0 rfl (w5.setRow g (celW (chL T)).toArray) (exec_storeRow g _ _ rfl rfl rfl HC5.out (ch_size T) (by rw [List.size_toArray, List.size_toArray, celW_length, celW_length, chL_length, chL_length]) celW_one) ?_
      refine wpList_nil ?_
      simp only [Act.put, List.setIfInBounds_toArray, List.set_cons_zero, List.set_cons_succ]
      have HC6 := Lib.hid (HC5.out.row (chL T))
      have HP6 := Lib.hid (HP5.out.keepX HC5.out ((SameX.refl g w5).row (celW (chL T)).toArray))
      have HS6 := Lib.hid (HS5.out.keepX HC5.out ((SameX.refl g w5).row (celW (chL T)).toArray))
      have HB6 := Lib.hid (bel_setRow HB5.out (show w.heap.size ≤ g by omega) (celW (chL T)).toArray)
      clear HC5 HP5 HS5 HB5
      generalize w5.setRow g (celW (chL T)).toArray = w6 at *
      go_wp2_with fail
      go_roundw
      case rel => exact ⟨j + 1, i + 64, hlt, by have := HI.out; omega, by omega, by go_num, by rw [HST.out]; exact HC6.out, HP6.out, HS6.out, HB6.out⟩
      case measure => simp [intOf]; omega
    · obtain rfl : j = k := by omega
      clear hi HI hk0 hlt hj hj0
      have hld := run_loadW (P := Tryd.prog) HC.out 8 (by rw [chL_length])
      have hsc := run_storeCells_new (P := Tryd.prog) wr 36 #[.int .u32 0, .int .u32 0, .int .u32 0, .int .u32 0, .int .u32 0, .int .u32 0, .int .u32 0, .int .u32 0] (celW (chL (stN ch0 p j))).toArray (by rw [List.size_toArray, celW_length, chL_length]; kernel_rfl) (by show 8 = _; rw [List.size_toArray, celW_length, chL_length]) celW_one
      have hsz : (celW (chL (stN ch0 p j))).length = 8 := by rw [celW_length, chL_length]
      generalize hcs : celW (chL (stN ch0 p j)) = cs at *
      go_wp2_with fail
      simp only [Tryd.isAgg36, Tryd.sizeOf36, Result.andThen, ↓reduceIte, hld]
      rw [Oper.upon_value]
      clear hld
      go_wp2_with fail
      simp only [Tryd.sizeOf36, Result.andThen, ↓reduceIte, hsc, hsz]
      rw [Oper.upon_skip]
      clear hsc
      go_wp2_with fail
      refine wp_named1 (fun W5 hb5 g0 hlt5 => ?_)
      have HC5 : Hid (RowW W5 36 wr.heap.size (chL (stN ch0 p j))) := Lib.hid (by unfold RowW; rw [hcs]; exact g0)
      have HB5 := Lib.hid (bel_step HB.out hb5)
      have HS5 := Lib.hid (HS.out.keep hb5)
      have HP5 := Lib.hid (HP.out.keep hb5)
      have hz5 : w.heap.size ≤ wr.heap.size := HB.out.size
      clear g0 hb5 hlt5 HB HS HP HC hcs hsz
      generalize wr.heap.size = g2 at *
      go_loopw [12] (fun s wr => ∃ q i : Nat, q ≤ K ∧ i = 64 * q ∧ j ≤ q ∧ s = .int .i64 q ∧ RowW wr 36 g2 (chL (stN ch0 p q)) ∧ Sb wr (some ad) L f p ∧ Sb wr A m c bt ∧ Below w.heap.size w wr) (fun s _ => K - (intOf s).toNat)
      case atStart => exact ⟨j, 64 * j, hkK, rfl, Nat.le_refl _, rfl, HC5.out, HP5.out, HS5.out, HB5.out⟩
      case round =>
        clear HC5 HP5 HS5 HB5
        obtain ⟨q, i, hj, hi, hj0, rfl, hc, hP, hS, hB⟩ := hrel
        have HI := Lib.hid hi
        have HC := Lib.hid hc
        have HP := Lib.hid hP
        have HS := Lib.hid hS
        have HB := Lib.hid hB
        clear hc hP hS hB
        have hk0 : (0 : Int) ≤ (q : Int) := by omega
        by_cases hlt : q < K
        · have hiL : i + 64 ≤ L := by have := HLK.out; omega
          have hk1 : (q : Int) < (K : Int) := by omega
          have hmul : (64 : Int) * (q : Int) = (i : Int) := by omega
          have hi0 : (0 : Int) ≤ (i : Int) := by omega
          have hne : ¬ f = i := by omega
          have hw0 : IntKind.i64.wrap (i : Int) = (i : Int) := by rw [IntKind.wrap_i64]; omega
          have hw1 : IntKind.i64.wrap ((i : Int) + 64) = (i : Int) + 64 := by rw [IntKind.wrap_i64]; omega
          have hk2 : (i : Int) + 64 ≤ (f : Int) := by omega
          have hk3 : ((i : Int) + 64).toNat = i + 64 := by omega
          have hk4 : (0 : Int) ≤ (i : Int) + 64 := by omega
          have hk5 : (i : Int) ≤ (i : Int) + 64 := by omega
          have hk6 : i + 64 - i = 64 := by omega
          clear hi
          go_wp2_with fail
          refine wp_later_tail 9 (by kernel_rfl) (by kernel_rfl) ?_
          simp only [List.take_succ_cons, List.take_zero, List.drop_succ_cons, List.drop_zero]
          refine wpQuiet_val (by kernel_rfl) _ (fun v hv => by obtain ⟨X, rfl⟩ := hv; exact exec_loadC (HC.out.keep X.below) rfl rfl) ?_
          simp only [Act.put, List.setIfInBounds_toArray, List.set_cons_zero, List.set_cons_succ]
          have hB : ∀ X : Later wr, Blk X.at (ad.add i) (blkF p q) := fun X => by
            rw [HI.out]
            exact blk_drop (HP.out.keep X.below) (by have := HI.out; omega)
          generalize hS : stN ch0 p q = S at *
          have hok : S.Ok := by rw [← hS]; exact stN_ok ch0_ok _ _
          have HST := Lib.hid (show stN ch0 p (q + 1) = compN S (blkF p q) by rw [stN, hS])
          clear hS
          repeat (go_big_quiet_step ((go_at_call 24; with_reducible exact Calls.later (rcomp_any S (ad.add i) (blkF p q) (f - i) _ hok (hB _) (by omega) (by omega)))))
          refine wpQuiet_nil ?_
          intro X
          have HC5 := Lib.hid (HC.out.keep X.below)
          have HP5 := Lib.hid (HP.out.keep X.below)
          have HS5 := Lib.hid (HS.out.keep X.below)
          have HB5 := Lib.hid (bel_step HB.out X.below)
          generalize X.at = w5 at *
          generalize compN S (blkF p q) = T at *
          clear HC HP HS HB hB
          refine wpList_skip0 rfl (w5.setRow g2 (celW (chL T)).toArray) (exec_storeRow g2 _ _ rfl rfl rfl HC5.out (ch_size T) (by rw [List.size_toArray, List.size_toArray, celW_length, celW_length, chL_length, chL_length]) celW_one) ?_
          refine wpList_nil ?_
          simp only [Act.put, List.setIfInBounds_toArray, List.set_cons_zero, List.set_cons_succ]
          have HC6 := Lib.hid (HC5.out.row (chL T))
          have HP6 := Lib.hid (HP5.out.keepX HC5.out ((SameX.refl g2 w5).row (celW (chL T)).toArray))
          have HS6 := Lib.hid (HS5.out.keepX HC5.out ((SameX.refl g2 w5).row (celW (chL T)).toArray))
          have HB6 := Lib.hid (bel_setRow HB5.out (show w.heap.size ≤ g2 by omega) (celW (chL T)).toArray)
          clear HC5 HP5 HS5 HB5
          generalize w5.setRow g2 (celW (chL T)).toArray = w6 at *
          go_wp2_with fail
          go_roundw
          case rel => exact ⟨q + 1, i + 64, hlt, by have := HI.out; omega, by omega, by go_num, by rw [HST.out]; exact HC6.out, HP6.out, HS6.out, HB6.out⟩
          case measure => simp [intOf]; omega
        · obtain rfl : q = K := by omega
          clear hi HI hk0 hlt
          generalize hS : stN ch0 p q = S at *
          have hok : S.Ok := by rw [← hS]; exact stN_ok ch0_ok _ _
          clear hS
          have heq := run_eqD_same R HRL.out HRB.out
          have hzq := HB.out.size
          go_upto_region 16 with fail
          refine wp_heldB wr.heap.size (by kernel_rfl) (lexOK_of (by kernel_rfl) (by kernel_rfl)) (chainOK_of (by kernel_rfl)) (fun W0 hbW hSW => ?_)
          have HB0 := Lib.hid (bel_step HB.out hbW)
          have HS0 := Lib.hid (HS.out.keep hbW)
          have HSS := Lib.hid hSW
          have hz0 := hbW.size
          have hg2l : g2 < wr.heap.size := HC.out.lt
          clear hbW hSW HS HB
          refine wpHeld_seg 6 HSS.out (by kernel_rfl) ?_
          simp only [List.take_succ_cons, List.take_zero, List.drop_succ_cons, List.drop_zero]
          repeat (go_big_quiet_step (fail))
          refine wpQuiet_nil ?_
          refine wpHeld_call 13 Tryd.func13 (by kernel_rfl) (by kernel_rfl) _ _ #[.slice A m c] rfl (by kernel_rfl) (by kernel_rfl) ?_
          refine (sum_any A m c bt W0 HS0.out (by omega) (HG.out.keep HB0.out) R HR.out).mono ?_
          rintro e X1 ⟨rfl, hb⟩
          have HB8 := Lib.hid (bel_step HB0.out hb)
          have HS8 := Lib.hid (LaterB.step HSS.out (hb.mono (by omega)))
          have hz8 : wr.heap.size ≤ X1.heap.size := by have := hb.size; omega
          clear hb HB0 HSS HS0 hz0
          refine ⟨_, rfl, HS8.out, ?_⟩
          simp only [Act.put, List.setIfInBounds_toArray, List.set_cons_zero, List.set_cons_succ]
          refine wpHeld_seg 1 HS8.out (by kernel_rfl) ?_
          simp only [List.take_succ_cons, List.take_zero, List.drop_succ_cons, List.drop_zero]
          refine wpQuiet_val (by kernel_rfl) _ (fun v hv => exec_loadC (HC.out.same ((LaterB.of hv).block _ (by omega))) rfl rfl) ?_
          simp only [Act.put, List.setIfInBounds_toArray, List.set_cons_zero, List.set_cons_succ]
          refine wpQuiet_nil ?_
          refine wpHeld_call 25 Tryd.func25 (by kernel_rfl) (by kernel_rfl) _ _ #[.agg (celW (chL S)).toArray] rfl (by kernel_rfl) (by kernel_rfl) ?_
          refine (rdigest_any S X1 hok).mono ?_
          rw [HD.out]
          rintro e X2 ⟨rfl, hb⟩
          have HB9 := Lib.hid (bel_step HB8.out hb)
          have HS9 := Lib.hid (LaterB.step HS8.out (hb.mono (by omega)))
          clear hb HB8 HS8 hz8
          refine ⟨_, rfl, HS9.out, ?_⟩
          simp only [Act.put, List.setIfInBounds_toArray, List.set_cons_zero, List.set_cons_succ]
          refine wpHeld_seg 6 HS9.out (by kernel_rfl) ?_
          simp only [List.take_succ_cons, List.take_zero, List.drop_succ_cons, List.drop_zero]
          repeat (go_big_quiet_step (fail))
          refine wpQuiet_nil (wpHeld_nil ?_)
          go_wp2_with fail
          go_ret
          exact ⟨rfl, HB9.out⟩
end Go.Proofs.YtliflbelhogopaaDoor
