/- Contracts of package poly: roots, weights, the value of the interpolating polynomial; no conditions but lengths. -/
import Derived.Test.YtjimnoikkgheaaaPolE
import Derived.Test.YtjimnoikkgheaaaPolI
import Derived.Test.YtjimnoikkgheaaaRefC
namespace Go.Proofs.Ytjimnoikkgheaaa
open Go.RowKit Gold

set_option maxHeartbeats 2000000 in
theorem polyRoots_any (A : Option Addr) (n c : Nat) (xs : List E2) (B : Option Addr) (m d : Nat) (ls : List E2) (w : World) (h : Sl w A n c xs) (h' : Sl w B m d ls) (hm : m ≤ 65536) :
    Calls Try.prog 31 #[.slice A n c, .slice B m d] w fun e w' => ∃ A' q c', e = .returned (.slice A' q c') ∧ Si w' A' q c' (rootsAt xs ls m) ∧ Below w.heap.size w w' := by
  have hmd := h'.cap
  have hdt := h'.top
  have HS := Lib.hid h
  have HS' := Lib.hid h'
  clear h h'
  go_enter Try.func31, Try.ntmps31
  go_wp2_with fail
  refine (cut_any A n c xs _ HS.out).mono ?_
  rintro e W0 ⟨n1, rfl, hn1, hs, hb⟩
  have HST := Lib.hid hs
  have HB0 := Lib.hid hb
  clear hs hb
  go_wp2_with fail
  go_loopw [5, 12] (fun v i wr => ∃ k q : Nat, k ≤ m ∧ q ≤ k ∧ i = .int .i64 k ∧ OwI wr W0.heap.size v q (rootsAt xs ls k) ∧ Below W0.heap.size W0 wr) (fun _ i _ => m - (intOf i).toNat)
  case atStart => exact ⟨0, 0, Nat.zero_le _, Nat.le_refl _, rfl, OwI.nil _ _, Below.refl _ _⟩
  case round =>
    obtain ⟨k, q, hk, hqk, rfl, ho, hb0⟩ := hrel
    have HO := Lib.hid ho
    have HBZ := Lib.hid hb0
    have HB := Lib.hid (below_step HB0.out hb0)
    clear ho hb0
    by_cases hlt : k < m
    · obtain ⟨x, hx⟩ := HS'.out.get hlt
      obtain ⟨ad, rfl, h0, h1⟩ := HS'.out.at_ hx
      replace h0 := cell_keep h0 HB.out
      replace h1 := cell_keep h1 HB.out
      have HX := Lib.hid (cfE_some hx)
      clear hx
      go_wp2_with fail
      refine calls_named1 (fun W hbW gW hzW => ?_)
      have HOW := Lib.hid (HO.out.keep hbW)
      have HBZW := Lib.hid (below_step HBZ.out hbW)
      clear hbW gW h0 h1
      refine (polyEval_any A n1 c (trimE xs) x _ (HST.out.keep HBZW.out)).mono ?_
      rw [evE_trimE]
      rintro e W2 ⟨rfl, hb⟩
      have HO0 := Lib.hid (HOW.out.keep hb)
      have HBZ0 := Lib.hid (below_step HBZW.out hb)
      clear hb
      go_wp2_with fail
      cases hz : ezero (evE xs x) with
      | true =>
        have HZ := Lib.hid hz
        refine (extIsZero_any (evE xs x) _).mono ?_
        rw [hz]
        rintro e W1 ⟨rfl, hb⟩
        have HO1 := Lib.hid (HO0.out.keep hb)
        have HB1 := Lib.hid (below_step HBZ0.out hb)
        clear hb hz
        go_wp2_with (at_builtin; refine wpList_appendI rfl (.tmp 21) (.tmp 23) rfl W0.heap.size _ q _ rfl (HO1.out.keep ((Below.refl _ _).alloc (Nat.le_refl _) _)) W1.heap.size 1 k rfl (One.new W1 _ _) (by omega) (by have := HB1.out.size; simp; omega) ?_; intro v1 w1 hown1 hg1; have HO2 := Lib.hid hown1; have HB2 := Lib.hid (below_grown (w0 := W0) (HB1.out.alloc HB1.out.size _) hg1 (HO1.out.keep ((Below.refl _ _).alloc (Nat.le_refl _) _)) (Nat.le_refl _)); clear hown1 hg1)
        go_roundw
        case rel => exact ⟨k + 1, q + 1, by omega, by omega, by go_num, by rw [rootsAt_yes (by rw [HX.out]; exact HZ.out)]; exact HO2.out, HB2.out⟩
        case measure => simp [intOf]; omega
      | false =>
        have HZ := Lib.hid hz
        refine (extIsZero_any (evE xs x) _).mono ?_
        rw [hz]
        rintro e W1 ⟨rfl, hb⟩
        have HO1 := Lib.hid (HO0.out.keep hb)
        have HB1 := Lib.hid (below_step HBZ0.out hb)
        clear hb hz
        go_wp2_with fail
        go_roundw
        case rel => exact ⟨k + 1, q, by omega, by omega, by go_num, by rw [rootsAt_no (by rw [HX.out]; exact HZ.out)]; exact HO1.out, HB1.out⟩
        case measure => simp [intOf]; omega
    · have hkm : k = m := by omega
      subst hkm
      obtain ⟨A1, c1, rfl, hs1⟩ := HO.out.si
      have HSQ := Lib.hid hs1
      clear hs1
      go_wp2_with fail
      go_ret
      exact ⟨A1, q, c1, rfl, HSQ.out, HB.out⟩

end Go.Proofs.Ytjimnoikkgheaaa
