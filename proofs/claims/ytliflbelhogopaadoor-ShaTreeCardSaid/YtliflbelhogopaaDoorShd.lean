/- Contracts of package sha256: padding. -/
import Derived.Test.YtliflbelhogopaaDoorShc
import Derived.Deep.Cut
import Derived.Deep.RegionWith
namespace Go.Proofs.YtliflbelhogopaaDoor
set_option maxRecDepth 8000
open Go.RowKit
set_option maxHeartbeats 1000000 in
theorem padding_any (n : Nat) (w : World) (hn : n ≤ 70000) :
    Calls Tryd.prog 41 #[.int .u64 (n : Int)] w fun e w' => e = .returned (.slice (some ⟨w.heap.size, 0, none⟩) (zerosN n + 9) (zerosN n + 9)) ∧ RowB w' 5 w.heap.size (padN n) ∧ Below w.heap.size w w' := by
  go_enter Tryd.func41, Tryd.ntmps41
  have hz9 := zerosN_le n
  have hzE : (63 : Int) - ((n : Int) + 8) % 64 = ((zerosN n : Nat) : Int) := by unfold zerosN; omega
  have hP : Hid (padN n = 128 :: (List.replicate (zerosN n) 0 ++ lenB n 8)) := Lib.hid rfl
  go_upto_region 2 with fail
  clear hzE
  generalize hzz : zerosN n = z at *
  have HZ := Lib.hid hzz
  clear hzz
  obtain ⟨L, hL⟩ : ∃ L : Nat, L = z + 9 := ⟨_, rfl⟩
  have hmk := run_makeB L L (Nat.le_refl _) (by omega)
  have hz : (1 : Int) + (z : Int) + 8 = (L : Int) := by omega
  have HL := Lib.hid hL
  have hL0 : (0 : Int) < (L : Int) := by omega
  have hL1 : L ≤ 80 := by omega
  clear hL
  go_upto_region 3 with fail
  clear hmk hz
  have HR := Lib.hid (RowB.new w 5 (List.replicate L 0))
  have HB := Lib.hid ((Below.refl w.heap.size w).alloc (Nat.le_refl _) (.cells (celB (List.replicate L 0)).toArray 5))
  generalize w.alloc (.cells (celB (List.replicate L 0)).toArray 5) = w1 at *
  have c0 := HR.out.at_ (i := 0) (x := 0) (by rw [List.getElem?_replicate, HL.out]; simp)
  have f0 := HR.out.free 0
  go_upto_region 5 with fail
  clear c0 f0
  have HR1 : Hid (RowB (w1.setCell ⟨w.heap.size, 0, none⟩ (.int .u8 128)) 5 w.heap.size (128 :: (List.replicate (z + (8 - 0)) 0 ++ (lenB n 8).drop (8 - 0)))) := Lib.hid (by
    have h := HR.out.put 0 128 128 rfl
    rw [List.drop_of_length_le (by rw [lenB_length]; exact Nat.le_refl _), List.append_nil]
    rwa [HL.out, List.replicate_succ, List.set_cons_zero] at h)
  have HB1 : Hid (Below w.heap.size w (w1.setCell ⟨w.heap.size, 0, none⟩ (.int .u8 128))) := Lib.hid (HB.out.setCell (Nat.le_refl _) _)
  clear HR HB
  generalize w1.setCell ⟨w.heap.size, 0, none⟩ (.int .u8 128) = w2 at *
  go_wp2_with fail
  go_loopw [20] (fun s wr => ∃ k : Nat, k ≤ 8 ∧ s = .int .i64 k ∧ RowB wr 5 w.heap.size (128 :: (List.replicate (z + (8 - k)) 0 ++ (lenB n 8).drop (8 - k))) ∧ Below w.heap.size w wr) (fun s _ => 8 - (intOf s).toNat)
  case atStart => exact ⟨0, by omega, rfl, HR1.out, HB1.out⟩
  case round =>
    clear HR1 HB1
    obtain ⟨k, hk, rfl, hr, hb⟩ := hrel
    have HR := Lib.hid hr
    have HB := Lib.hid hb
    clear hr hb
    by_cases hlt : k < 8
    · have hk1 : (k : Int) < 8 := by omega
      have hk0 : (0 : Int) ≤ (k : Int) := by omega
      have e1 : (L : Int) - 1 - (k : Int) = ((z + (7 - k) + 1 : Nat) : Int) := by have := HL.out; omega
      have e2 : ((8 : Int) * (k : Int)).toNat = 8 * k := by omega
      have e3 : min (8 * k) 64 = 8 * k := by omega
      have e4 : ((z + (7 - k) + 1 : Nat) : Int) < (L : Int) := by have := HL.out; omega
      have e5 : (0 : Int) ≤ ((z + (7 - k) + 1 : Nat) : Int) := by have := HL.out; omega
      have hr := HR.out
      rw [show z + (8 - k) = z + (7 - k) + 1 by omega] at hr
      have c0 := hr.at_ get_end
      have f0 := hr.free (z + (7 - k) + 1)
      have HR1 := Lib.hid hr
      clear hr HR
      generalize hix : z + (7 - k) + 1 = ix at *
      go_wp2_with fail
      go_roundw
      case rel =>
        refine ⟨k + 1, by omega, by go_num, ?_, HB.out.setCell (by simp) _⟩
        rw [lenB_drop n k hlt]
        subst hix
        have hv : Value.int .u8 (8 * (n : Int) / 2 ^ (8 * k) % 256) = Value.int .u8 ((lenF n (7 - k) : Nat) : Int) := by
          unfold lenF
          rw [show 56 - 8 * (7 - k) = 8 * k by omega]
          rfl
        rw [hv]
        have h := HR1.out.put (z + (7 - k) + 1) _ (lenF n (7 - k)) rfl
        rw [set_end] at h
        rwa [show z + (8 - (k + 1)) = z + (7 - k) by omega]
      case measure => simp [intOf]; omega
    · have hkn : k = 8 := by omega
      subst hkn
      go_wp2_with fail
      go_ret
      refine ⟨?_, ?_, HB.out⟩
      · rw [HZ.out, ← HL.out]; rfl
      · have h := HR.out
        rw [hP.out]
        simpa using h
end Go.Proofs.YtliflbelhogopaaDoor
