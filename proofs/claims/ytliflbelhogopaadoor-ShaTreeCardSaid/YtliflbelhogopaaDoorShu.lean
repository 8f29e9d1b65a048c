/- The reference's Leaf, Masked, Made, SameBytes. -/
import Derived.Test.YtliflbelhogopaaDoorSht
namespace Go.Proofs.YtliflbelhogopaaDoor
set_option maxRecDepth 8000
open Go.RowKit
attribute [local simp] z32_ne z32_run
attribute [-simp] Tryd.zeroValue26 Tryd.isAgg26 Tryd.sizeOf26
theorem OwB.nil1 {w : World} {g : Nat} (h : w.heap[g]? = some (.cells #[] 5 (0, 0))) {base : Nat} (hb : base ≤ g) : OwB w base (.slice (some ⟨g, 0, none⟩) 0 0) 0 [] := ⟨OwB.empty1 h rfl hb, fun _ h => by cases h⟩
set_option maxHeartbeats 1000000 in
theorem rleaf_any (A : Option Addr) (n c : Nat) (bs : List Nat) (w : World) (h : Sb w A n c bs) (hn : n ≤ 59999) (R : List Nat) (hR : shaN (0 :: bs) = R) :
    Calls Tryd.prog 16 #[.slice A n c] w fun e w' => e = .returned (.agg (celB R).toArray) ∧ Below w.heap.size w w' := by
  have hl : R.length = 32 := by rw [← hR]; exact shaN_length _
  have HR := Lib.hid hR
  clear hR
  go_enter Tryd.func16, Tryd.ntmps16
  go_wp2_with fail
  refine calls_named2 (fun w1 hb1 g0 g1 hlt1 => ?_)
  have H0 : Hid (RowB w1 26 w.heap.size (List.replicate 32 0)) := Lib.hid g0
  have hz : RowB w1 5 (w.heap.size + 1) [0] := g1
  have HB1 := Lib.hid hb1
  refine (rjoin_any _ 1 1 [0] A n c bs w1 (hz.all (by decide) rfl (Nat.le_refl _) (by omega)) (h.keep hb1) (by omega)).mono ?_
  rintro e W2 ⟨C, f, rfl, hs, hb⟩
  have H02 := Lib.hid (H0.out.keep hb)
  have HB2 := Lib.hid (bel_step HB1.out hb)
  have HS2 := Lib.hid hs
  clear g0 g1 hb1 hlt1 H0 HB1 h hz hb hs
  go_wp2_with fail
  refine (rsum_any C (1 + n) f ([0] ++ bs) W2 HS2.out (by omega) R HR.out).mono ?_
  rintro e w2 ⟨rfl, hb2⟩
  have H2 := Lib.hid (H02.out.keep hb2)
  have HB3 := Lib.hid (bel_step HB2.out hb2)
  clear hb2 H02 HB2
  have hsc := run_storeB (P := Tryd.prog) (ws := R) H2.out (by rw [hl, List.length_replicate])
  have hsz : (celB R).length = 32 := by rw [celB_length, hl]
  go_wp2_with fail
  simp only [Tryd.sizeOf26, Result.andThen, ↓reduceIte, hsc]
  rw [Oper.upon_skip]
  go_wp2_with fail
  refine bodyPost_ret (v := .agg (celB R).toArray) ?_ rfl ⟨rfl, bel_setRow HB3.out (Nat.le_refl _) _⟩
  exact results_cell_row rfl _ _ w.heap.size 26 _ (0, 0) _ rfl (H2.out.row R) Tryd.underlying26 rfl (dig_size hl)
theorem maskN_at {key : List Nat} {m k : Nat} (hl : key.length = 32) (hk : k < 64) : (maskN key m).getD k 0 = if k < 32 then key.getD k 0 ^^^ m else m := by
  unfold maskN
  rw [List.getD_eq_getElem?_getD, List.getElem?_map]
  split
  · next h =>
    rw [List.getElem?_append_left (by omega), List.getElem?_eq_getElem (by omega), List.getD_eq_getElem?_getD, List.getElem?_eq_getElem (by omega)]
    rfl
  · next h =>
    rw [List.getElem?_append_right (by omega), List.getElem?_replicate, if_pos (by omega)]
    simp
set_option maxHeartbeats 2000000 in
theorem rmasked_any (key : List Nat) (m : Nat) (w : World) (hk : key.length = 32) (hkb : ∀ x ∈ key, x < 256) (hm : m < 256) :
    Calls Tryd.prog 28 #[.agg (celB key).toArray, .int .u8 (m : Int)] w fun e w' => ∃ C f, e = .returned (.slice C 64 f) ∧ Sb w' C 64 f (maskN key m) ∧ Below w.heap.size w w' := by
  have HL := Lib.hid hk
  have HXB := Lib.hid hkb
  have HML := Lib.hid (maskN_length key m hk)
  clear hk hkb
  go_enter Tryd.func28, Tryd.ntmps28
  go_wp2_with fail
  refine wp_named2 (fun w1 hb1 g0 g1 hlt1 => ?_)
  have H0 : Hid (RowB w1 26 w.heap.size key) := Lib.hid g0
  have HO0 := Lib.hid (OwB.nil1 g1 (Nat.le_refl _))
  have HB1 := Lib.hid hb1
  clear g0 g1 hb1
  go_loopw [5, 6] (fun v s wr => ∃ k : Nat, k ≤ 64 ∧ s = .int .i64 k ∧ RowB wr 26 w.heap.size key ∧ OwB wr (w.heap.size + 1) v k ((maskN key m).take k) ∧ Below w.heap.size w wr ∧ w.heap.size + 1 ≤ wr.heap.size) (fun _ s _ => 64 - (intOf s).toNat)
  case atStart => exact ⟨0, by omega, rfl, H0.out, HO0.out, HB1.out, by omega⟩
  case round =>
    clear H0 HO0 HB1
    obtain ⟨k, hk, rfl, hr, ho, hb, hz⟩ := hrel
    have HR := Lib.hid hr
    have HO := Lib.hid ho
    have HB := Lib.hid hb
    obtain ⟨C, f, rfl, hsl⟩ := ho.sl
    have HSL := Lib.hid hsl
    clear hr ho hb hsl
    by_cases hlt : k < 64
    · have hk1 : (k : Int) < 64 := by omega
      have hk0 : (0 : Int) ≤ (k : Int) := by omega
      have HTS := Lib.hid (take_snoc (show k < (maskN key m).length by rw [HML.out]; exact hlt))
      have HMA := Lib.hid (maskN_at (m := m) HL.out hlt)
      by_cases h32 : k < 32
      · have hk2 : (k : Int) < 32 := by omega
        have c0 := HR.out.at_ (some_getD (show k < key.length by rw [HL.out]; exact h32))
        have hxb := getD_byte HXB.out k
        generalize key.getD k 0 = x at *
        have hyv := xor8 x m hxb hm
        have hyb := xor_byte hxb hm
        generalize hy : x ^^^ m = y at *
        have HY := Lib.hid hy
        clear hy
        go_wp2_with (at_builtin; refine wpList_appendB rfl (.tmp 21) (.tmp 23) rfl (w.heap.size + 1) _ k _ rfl (HO.out.keep ((Below.refl _ _).alloc (Nat.le_refl _) _)) wr.heap.size 1 y rfl (One.new wr _ _) hyb (by omega) (by simp; omega) ?_; intro v1 w2 ho1 hb1; have HO1 := Lib.hid ho1; have HB2 := Lib.hid (((Below.refl (w.heap.size + 1) wr).alloc hz (.cells #[.int .u8 (y : Int)] 5)).trans hb1); obtain ⟨C1, f1, rfl, _⟩ := ho1.sl; clear ho1 hb1)
        go_roundw
        case rel => exact ⟨k + 1, by omega, by go_num, HR.out.same (HB2.out.block _ (by omega)), by rw [← HTS.out, HMA.out, if_pos h32]; exact HO1.out, HB.out.trans (HB2.out.mono (by omega)), Nat.le_trans hz HB2.out.size⟩
        case measure => simp [intOf]; omega
      · have hk2 : ¬ (k : Int) < 32 := by omega
        go_wp2_with (at_builtin; refine wpList_appendB rfl (.tmp 21) (.tmp 23) rfl (w.heap.size + 1) _ k _ rfl (HO.out.keep ((Below.refl _ _).alloc (Nat.le_refl _) _)) wr.heap.size 1 m rfl (One.new wr _ _) hm (by omega) (by simp; omega) ?_; intro v1 w2 ho1 hb1; have HO1 := Lib.hid ho1; have HB2 := Lib.hid (((Below.refl (w.heap.size + 1) wr).alloc hz (.cells #[.int .u8 (m : Int)] 5)).trans hb1); obtain ⟨C1, f1, rfl, _⟩ := ho1.sl; clear ho1 hb1)
        go_roundw
        case rel => exact ⟨k + 1, by omega, by go_num, HR.out.same (HB2.out.block _ (by omega)), by rw [← HTS.out, HMA.out, if_neg h32]; exact HO1.out, HB.out.trans (HB2.out.mono (by omega)), Nat.le_trans hz HB2.out.size⟩
        case measure => simp [intOf]; omega
    · obtain rfl : k = 64 := by omega
      go_wp2_with fail
      go_ret
      refine ⟨C, f, rfl, HSL.out.cast ?_, HB.out⟩
      exact List.take_of_length_le (by rw [HML.out]; exact Nat.le_refl _)
end Go.Proofs.YtliflbelhogopaaDoor
