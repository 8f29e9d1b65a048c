/- The reference's Pad, Masked; repeated. -/
import Derived.Test.YtliflbelhogopaaDoorShr
namespace Go.Proofs.YtliflbelhogopaaDoor
set_option maxRecDepth 8000
open Go.RowKit
theorem OwB.empty1 {w : World} {g t : Nat} (h : w.heap[g]? = some (.cells #[] t (0, 0))) {e : Nat} (ht : t = e) {base : Nat} (hb : base ≤ g) : w.ownsRow base e 1 (.slice (some ⟨g, 0, none⟩) 0 0) 0 [] :=
  ⟨rfl, .inr ⟨g, 0, _, rfl, hb, ht ▸ h, Nat.le_refl _, by unfold maxLen; omega, rfl, rfl⟩⟩
set_option maxHeartbeats 2000000 in
theorem rpad_any (A : Option Addr) (n c : Nat) (bs : List Nat) (w : World) (h : Sb w A n c bs) (hn : n ≤ 60000) :
    Calls Tryd.prog 22 #[.slice A n c] w fun e w' => ∃ C f, e = .returned (.slice C (64 * nblk n) f) ∧ Sb w' C (64 * nblk n) f (msgN bs) ∧ Below w.heap.size w w' := by
  have HLN := Lib.hid h.len
  have hz63 := zerosN_le n
  have HTOT := Lib.hid (total_len n)
  have HS := Lib.hid h
  clear h
  go_enter Tryd.func22, Tryd.ntmps22
  have hb0 : Below w.heap.size w (w.alloc (.cells #[] 5)) := (Below.refl _ _).alloc (Nat.le_refl _) _
  go_upto_region 2 with (at_builtin; refine wpList_appendBa rfl (.tmp 6) (.tmp 7) rfl w.heap.size _ 0 [] rfl (OwB.made w _ (Nat.le_refl _)) A n c bs rfl (HS.out.keep hb0) (by omega) (by simp) ?_; intro v1 w1 ho1 hb1; rw [Nat.zero_add, List.nil_append] at ho1; have HO1 := Lib.hid ho1; have HB1 := Lib.hid (hb0.trans hb1); obtain ⟨C1, f1, rfl, _⟩ := ho1.sl; clear ho1 hb1 hb0)
  go_wp2_with (at_builtin; refine wpList_appendB rfl (.tmp 9) (.tmp 10) rfl w.heap.size _ n _ rfl (HO1.out.keep ((Below.refl _ _).alloc (Nat.le_refl _) _)) w1.heap.size 1 128 rfl (One.new w1 _ _) (by omega) (by omega) (by have := HB1.out.size; simp; omega) ?_; intro v2 w2 ho2 hb2; have HO2 := Lib.hid ho2; have HB2 := Lib.hid (HB1.out.trans (((Below.refl w.heap.size w1).alloc HB1.out.size _).trans hb2)); obtain ⟨C2, f2, rfl, _⟩ := ho2.sl; clear ho2 hb2)
  go_loopw [3] (fun v wr => ∃ k L : Nat, k ≤ zerosN n ∧ L = n + 1 + k ∧ OwB wr w.heap.size v L (bs ++ [128] ++ List.replicate k 0) ∧ Below w.heap.size w wr) (fun v _ => match v with | .slice _ m _ => n + 1 + zerosN n - m | _ => 0)
  case atStart => exact ⟨0, n + 1, Nat.zero_le _, rfl, by rw [List.replicate_zero, List.append_nil]; exact HO2.out, HB2.out⟩
  case round =>
    clear HO1 HB1 HO2 HB2
    obtain ⟨k, L, hk, hL, ho, hb⟩ := hrel
    have HLk := Lib.hid hL
    have HO := Lib.hid ho
    have HB := Lib.hid hb
    obtain ⟨C, f, rfl, _⟩ := ho.sl
    clear ho hb
    have hLs : L ≤ 70000 := by omega
    by_cases hlt : k < zerosN n
    · have hne : (((L : Int) % 64) != 56) = true := by rw [bne_iff_ne]; unfold zerosN at hlt; omega
      clear hL
      go_wp2_with (at_builtin; refine wpList_appendB rfl (.tmp 16) (.tmp 17) rfl w.heap.size _ L _ rfl (HO.out.keep ((Below.refl _ _).alloc (Nat.le_refl _) _)) wr.heap.size 1 0 rfl (One.new wr _ _) (by omega) (by omega) (by have := HB.out.size; simp; omega) ?_; intro v2 w2 ho2 hb2; have HO2 := Lib.hid ho2; have HB2 := Lib.hid (HB.out.trans (((Below.refl w.heap.size wr).alloc HB.out.size (.cells #[.int .u8 0] 5)).trans hb2)); obtain ⟨C2, f2, rfl, _⟩ := ho2.sl; clear ho2 hb2)
      go_roundw
      case rel => exact ⟨k + 1, L + 1, hlt, by have := HLk.out; omega, by rw [List.replicate_succ', ← List.append_assoc]; exact HO2.out, HB2.out⟩
      case measure => have := HLk.out; simp; omega
    · have hkz : k = zerosN n := by omega
      have hne : (((L : Int) % 64) != 56) = false := by
        have : (L : Int) % 64 = 56 := by unfold zerosN at hkz; omega
        simp [this]
      clear hL
      go_wp2_with fail
      have HKZ := Lib.hid hkz
      clear hkz hlt hk
      go_loopw [3, 5] (fun v s wr => ∃ i M : Nat, i ≤ 8 ∧ s = .int .i64 i ∧ M = L + i ∧ OwB wr w.heap.size v M (bs ++ [128] ++ List.replicate k 0 ++ lenB n i) ∧ Below w.heap.size w wr) (fun _ s _ => 8 - (intOf s).toNat)
      case atStart => exact ⟨0, L, Nat.zero_le _, rfl, rfl, by rw [show lenB n 0 = [] from rfl, List.append_nil]; exact HO.out, HB.out⟩
      case round =>
        clear HO HB
        obtain ⟨i, M, hi, rfl, hM, ho, hb⟩ := hrel
        have HM := Lib.hid hM
        have HO := Lib.hid ho
        have HB := Lib.hid hb
        obtain ⟨C, f, rfl, hsl⟩ := ho.sl
        have HSL := Lib.hid hsl
        have hMs : M ≤ 69000 := by have := HLk.out; have := HKZ.out; omega
        clear ho hb hM hsl
        by_cases hlt : i < 8
        · have hk1 : (i : Int) < 8 := by omega
          have hk0 : (0 : Int) ≤ (i : Int) := by omega
          have e2 : ((56 : Int) - 8 * (i : Int)).toNat = 56 - 8 * i := by omega
          have e3 : min (56 - 8 * i) 64 = 56 - 8 * i := by omega
          have e4 : (0 : Int) ≤ (56 : Int) - 8 * (i : Int) := by omega
          have hv : (n : Int) * 8 / 2 ^ (56 - 8 * i) % 256 = ((lenF n i : Nat) : Int) := by unfold lenF; rw [Nat.mul_comm 8 n]; rfl
          have hy := lenF_lt n i
          have HSC := Lib.hid (lenB_succ n i)
          generalize lenF n i = y at *
          go_wp2_with (at_builtin; refine wpList_appendB rfl (.tmp 27) (.tmp 34) rfl w.heap.size _ M _ rfl (HO.out.keep ((Below.refl _ _).alloc (Nat.le_refl _) _)) wr.heap.size 1 y rfl (One.new wr _ _) hy (by omega) (by have := HB.out.size; simp; omega) ?_; intro v2 w2 ho2 hb2; have HO2 := Lib.hid ho2; have HB2 := Lib.hid (HB.out.trans (((Below.refl w.heap.size wr).alloc HB.out.size (.cells #[.int .u8 (y : Int)] 5)).trans hb2)); obtain ⟨C2, f2, rfl, _⟩ := ho2.sl; clear ho2 hb2)
          go_roundw
          case rel => exact ⟨i + 1, M + 1, by omega, by go_num, by have := HM.out; omega, by rw [HSC.out, ← List.append_assoc]; exact HO2.out, HB2.out⟩
          case measure => simp [intOf]; omega
        · obtain rfl : i = 8 := by omega
          have hMM : M = 64 * nblk n := by have := HTOT.out; have := HM.out; have := HLk.out; have := HKZ.out; omega
          have HMM := Lib.hid hMM
          clear hMM
          go_wp2_with fail
          go_ret
          rw [← HMM.out]
          refine ⟨C, f, rfl, HSL.out.cast ?_, HB.out⟩
          unfold msgN padN
          rw [← HLN.out, ← HKZ.out]
          simp
set_option maxHeartbeats 1000000 in
theorem repeated_any (N : Nat) (w : World) (hN : N ≤ 60000) :
    Calls Tryd.prog 21 #[.int .i64 (N : Int)] w fun e w' => ∃ C f, e = .returned (.slice C N f) ∧ OwB w' w.heap.size (.slice C N f) N (List.replicate N 97) ∧ Below w.heap.size w w' := by
  go_enter Tryd.func21, Tryd.ntmps21
  have hb0 : Below w.heap.size w (w.alloc (.cells #[] 5)) := (Below.refl _ _).alloc (Nat.le_refl _) _
  have HO0 := Lib.hid (OwB.made w w.heap.size (Nat.le_refl _))
  go_wp2_with fail
  generalize w.alloc (.cells #[] 5) = w1 at *
  go_loopw [3, 4] (fun v s wr => ∃ k : Nat, k ≤ N ∧ s = .int .i64 k ∧ OwB wr w.heap.size v k (List.replicate k 97) ∧ Below w.heap.size w wr) (fun _ s _ => N - (intOf s).toNat)
  case atStart => exact ⟨0, by omega, rfl, HO0.out, hb0⟩
  case round =>
    clear HO0 hb0
    obtain ⟨k, hk, rfl, ho, hb⟩ := hrel
    have HO := Lib.hid ho
    have HB := Lib.hid hb
    obtain ⟨C, f, rfl, _⟩ := ho.sl
    clear ho hb
    by_cases hlt : k < N
    · have hk1 : (k : Int) < (N : Int) := by omega
      have hk0 : (0 : Int) ≤ (k : Int) := by omega
      go_wp2_with (at_builtin; refine wpList_appendB rfl (.tmp 11) (.tmp 12) rfl w.heap.size _ k _ rfl (HO.out.keep ((Below.refl _ _).alloc (Nat.le_refl _) _)) wr.heap.size 1 97 rfl (One.new wr _ _) (by omega) (by omega) (by have := HB.out.size; simp; omega) ?_; intro v2 w2 ho2 hb2; have HO2 := Lib.hid ho2; have HB2 := Lib.hid (HB.out.trans (((Below.refl w.heap.size wr).alloc HB.out.size (.cells #[.int .u8 97] 5)).trans hb2)); obtain ⟨C2, f2, rfl, _⟩ := ho2.sl; clear ho2 hb2)
      go_roundw
      case rel => exact ⟨k + 1, hlt, by go_num, by rw [List.replicate_succ']; exact HO2.out, HB2.out⟩
      case measure => simp [intOf]; omega
    · obtain rfl : k = N := by omega
      go_wp2_with fail
      go_ret
      exact ⟨C, f, rfl, HO.out, HB.out⟩
end Go.Proofs.YtliflbelhogopaaDoor
