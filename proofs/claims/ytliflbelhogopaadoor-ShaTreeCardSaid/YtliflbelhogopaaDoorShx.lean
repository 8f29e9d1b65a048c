/- The reference's Made, SameBytes. -/
import Derived.Test.YtliflbelhogopaaDoorShw
namespace Go.Proofs.YtliflbelhogopaaDoor
set_option maxRecDepth 8000
open Go.RowKit
attribute [local simp] z32_ne z32_run
attribute [-simp] Tryd.zeroValue26 Tryd.isAgg26 Tryd.sizeOf26
def madeN (bs : List Nat) : List Nat := bs.take 32 ++ List.replicate (32 - min 32 bs.length) 0
theorem madeN_length (bs : List Nat) : (madeN bs).length = 32 := by unfold madeN; simp; omega
theorem madeN_lt {bs : List Nat} (h : ∀ x ∈ bs, x < 256) : ∀ x ∈ madeN bs, x < 256 := by
  intro x hx
  unfold madeN at hx
  rcases List.mem_append.1 hx with hx | hx
  · exact h x (List.mem_of_mem_take hx)
  · rw [(List.mem_replicate.1 hx).2]; decide
set_option maxHeartbeats 2000000 in
theorem rmade_any (A : Option Addr) (n c : Nat) (bs : List Nat) (w : World) (h : Sb w A n c bs) :
    Calls Tryd.prog 12 #[.slice A n c] w fun e w' => e = .returned (.agg (celB (madeN bs)).toArray) ∧ Below w.heap.size w w' := by
  have HLN := Lib.hid h.len
  have hcap := h.cap
  have htop := h.top
  have HS := Lib.hid h
  have HM := Lib.hid (show madeN bs = bs.take (min 32 n) ++ List.replicate (32 - min 32 n) 0 by
    unfold madeN
    rw [← HLN.out]
    congr 1
    by_cases hh : n ≤ 32
    · rw [List.take_of_length_le (by have := HLN.out; omega), List.take_of_length_le (by have := HLN.out; omega)]
    · rw [Nat.min_eq_left (by omega)])
  have HML := Lib.hid (madeN_length bs)
  clear h
  go_enter Tryd.func12, Tryd.ntmps12
  have hsc := run_storeCells_new (P := Tryd.prog) (w.alloc (.cells z32 26)) 26 z32 z32 (by rw [z32_size]; kernel_rfl) rfl celB_one
  rw [alloc_sz] at hsc
  go_wp2_with fail
  simp only [Tryd.sizeOf26, Result.andThen, ↓reduceIte, hsc, z32_size]
  rw [Oper.upon_skip]
  clear hsc
  go_wp2_with fail
  refine wp_named2 (fun w1 hb1 g0 g1 hlt1 => ?_)
  have H0 : Hid (RowB w1 26 w.heap.size (List.replicate 32 0)) := Lib.hid g0
  have H1 : Hid (RowB w1 26 (w.heap.size + 1) (List.replicate 32 0)) := Lib.hid g1
  have HB1 := Lib.hid hb1
  clear g0 g1 hb1
  go_loopw [4] (fun s wr => ∃ k : Nat, k ≤ 32 ∧ k ≤ n ∧ s = .int .i64 k ∧ RowB wr 26 w.heap.size (List.replicate 32 0) ∧ RowB wr 26 (w.heap.size + 1) (bs.take k ++ List.replicate (32 - k) 0) ∧ Below w.heap.size w wr) (fun s _ => 32 - (intOf s).toNat)
  case atStart => exact ⟨0, by omega, by omega, rfl, H0.out, H1.out, HB1.out⟩
  case round =>
    clear H0 H1 HB1
    obtain ⟨k, hk, hkn, rfl, h0, h1, hb⟩ := hrel
    have H0 := Lib.hid h0
    have H1 := Lib.hid h1
    have HB := Lib.hid hb
    clear h0 h1 hb
    have hk0 : (0 : Int) ≤ (k : Int) := by omega
    by_cases hlt : k < min 32 n
    · have hk1 : (k : Int) < 32 := by omega
      have hk2 : (k : Int) < (n : Int) := by omega
      have hkl : k < n := by omega
      have htl : (bs.take k).length = k := by rw [List.length_take]; have := HLN.out; omega
      obtain ⟨ad, rfl⟩ := HS.out.some_ (by omega)
      have c0 := (HS.out.keep HB.out).at_ hkl
      have HTS := Lib.hid (take_snoc (bs := bs) (k := k) (by rw [← HLN.out]; exact hkl))
      have d0 := H1.out.at_ (i := k) (x := 0) (get_zero htl (by omega))
      have d1 := H1.out.free k
      have HTL := Lib.hid htl
      generalize bs.getD k 0 = x at *
      clear htl hlt
      go_wp2_with fail
      go_roundw
      case rel =>
        refine ⟨k + 1, by omega, by omega, by go_num, H0.out.far _ (by simp), ?_, HB.out.setCell (by simp) _⟩
        rw [← HTS.out, ← set_midB _ HTL.out (by omega)]
        exact H1.out.put k _ _ rfl
      case measure => simp [intOf]; omega
    · have HKM := Lib.hid (show k = min 32 n by omega)
      clear hlt
      by_cases h32 : k = 32
      · have hk1 : ¬ (k : Int) < 32 := by omega
        have hld := run_loadB (P := Tryd.prog) H1.out 32 (by rw [List.length_append, List.length_take, List.length_replicate]; have := HLN.out; omega)
        have hbs : bs.take k ++ List.replicate (32 - k) 0 = madeN bs := by rw [HM.out, HKM.out]
        rw [hbs] at hld H1
        have hsc := run_storeB (P := Tryd.prog) (ws := madeN bs) H0.out (by rw [HML.out, List.length_replicate])
        have hsz : (celB (madeN bs)).length = 32 := by rw [celB_length, HML.out]
        generalize hRR : madeN bs = R at *
        have HRR := Lib.hid hRR
        clear hRR
        go_wp2_with fail
        simp only [Tryd.isAgg26, Tryd.sizeOf26, Result.andThen, ↓reduceIte, hld]
        rw [Oper.upon_value]
        clear hld
        go_wp2_with fail
        simp only [Tryd.sizeOf26, Result.andThen, ↓reduceIte, hsc]
        rw [Oper.upon_skip]
        clear hsc
        go_wp2_with fail
        refine bodyPost_ret (v := .agg (celB R).toArray) ?_ rfl ⟨by rw [HRR.out], bel_setRow HB.out (Nat.le_refl _) _⟩
        exact results_cell_row rfl _ _ w.heap.size 26 _ (0, 0) _ rfl (H0.out.row R) Tryd.underlying26 rfl (dig_size HML.out)
      · have hk1 : (k : Int) < 32 := by omega
        have hk2 : ¬ (k : Int) < (n : Int) := by have := HKM.out; omega
        have hld := run_loadB (P := Tryd.prog) H1.out 32 (by rw [List.length_append, List.length_take, List.length_replicate]; have := HLN.out; omega)
        have hbs : bs.take k ++ List.replicate (32 - k) 0 = madeN bs := by rw [HM.out, HKM.out]
        rw [hbs] at hld H1
        have hsc := run_storeB (P := Tryd.prog) (ws := madeN bs) H0.out (by rw [HML.out, List.length_replicate])
        have hsz : (celB (madeN bs)).length = 32 := by rw [celB_length, HML.out]
        generalize hRR : madeN bs = R at *
        have HRR := Lib.hid hRR
        clear hRR
        go_wp2_with fail
        simp only [Tryd.isAgg26, Tryd.sizeOf26, Result.andThen, ↓reduceIte, hld]
        rw [Oper.upon_value]
        clear hld
        go_wp2_with fail
        simp only [Tryd.sizeOf26, Result.andThen, ↓reduceIte, hsc]
        rw [Oper.upon_skip]
        clear hsc
        go_wp2_with fail
        refine bodyPost_ret (v := .agg (celB R).toArray) ?_ rfl ⟨by rw [HRR.out], bel_setRow HB.out (Nat.le_refl _) _⟩
        exact results_cell_row rfl _ _ w.heap.size 26 _ (0, 0) _ rfl (H0.out.row R) Tryd.underlying26 rfl (dig_size HML.out)
set_option maxHeartbeats 2000000 in
theorem rsame_yes (A : Option Addr) (n c : Nat) (B : Option Addr) (m d : Nat) (bs : List Nat) (w : World) (ha : Sb w A n c bs) (hb : Sb w B m d bs) :
    Calls Tryd.prog 29 #[.slice A n c, .slice B m d] w fun e w' => e = .returned (.bool true) ∧ Below w.heap.size w w' := by
  obtain rfl : n = m := by rw [ha.len, hb.len]
  have hcap := ha.cap
  have htop := ha.top
  have HA := Lib.hid ha
  have HC := Lib.hid hb
  clear ha hb
  go_enter Tryd.func29, Tryd.ntmps29
  go_wp2_with fail
  go_loopw [5] (fun s wr => ∃ k : Nat, k ≤ n ∧ s = .int .i64 k ∧ Below w.heap.size w wr) (fun s _ => n - (intOf s).toNat)
  case atStart => exact ⟨0, Nat.zero_le _, rfl, Below.refl _ _⟩
  case round =>
    obtain ⟨k, hk, rfl, hbw⟩ := hrel
    by_cases hlt : k < n
    · have hk1 : (k : Int) < (n : Int) := by omega
      have hk0 : (0 : Int) ≤ (k : Int) := by omega
      obtain ⟨ad, rfl⟩ := HA.out.some_ (by omega)
      obtain ⟨ad2, rfl⟩ := HC.out.some_ (by omega)
      have c0 := Later.cell ((HA.out.keep hbw).at_ hlt)
      have c1 := Later.cell ((HC.out.keep hbw).at_ hlt)
      generalize bs.getD k 0 = x at *
      go_wp2_with fail
      refine wp_later_lex (by kernel_rfl) (lexOK_of (by kernel_rfl) (by kernel_rfl)) ?_
      repeat (go_big_quiet_step (fail))
      refine wpQuiet_nil ?_
      intro X
      have hb2 := bel_step hbw X.below
      go_wp2_with fail
      go_roundw
      case rel => exact ⟨k + 1, hlt, by go_num, hb2⟩
      case measure => simp [intOf]; omega
    · obtain rfl : k = n := by omega
      go_wp2_with fail
      go_ret
      exact ⟨rfl, hbw⟩
end Go.Proofs.YtliflbelhogopaaDoor
