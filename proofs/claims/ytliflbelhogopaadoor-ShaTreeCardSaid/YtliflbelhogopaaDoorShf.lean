/- Contracts of package sha256: padded. -/
import Derived.Test.YtliflbelhogopaaDoorShe
namespace Go.Proofs.YtliflbelhogopaaDoor
set_option maxRecDepth 8000
open Go.RowKit
set_option maxHeartbeats 2000000 in
theorem padded_any (A : Option Addr) (n c : Nat) (Ps : List (List Nat)) (w : World) (h : Pb w A n c Ps) (hn1 : 1 ≤ n) (hn : n ≤ 1000) (hL : sumL Ps ≤ 70000) :
    Calls Tryd.prog 37 #[.slice A n c] w fun e w' => ∃ g c', e = .returned (.slice (some ⟨g, 0, none⟩) (n + 1) c') ∧ Pb w' (some ⟨g, 0, none⟩) (n + 1) c' (Ps ++ [padN (sumL Ps)]) ∧ Below w.heap.size w w' := by
  have hcap := h.cap
  have htop := h.top
  have HS := Lib.hid h
  clear h
  go_enter Tryd.func37, Tryd.ntmps37
  go_wp2_with fail
  go_loopw [3, 8] (fun s i wr => ∃ k : Nat, k ≤ n ∧ s = .int .u64 ((sumL (Ps.take k) : Nat) : Int) ∧ i = .int .i64 k ∧ wr = w) (fun _ i _ => n - (intOf i).toNat)
  case atStart => exact ⟨0, by omega, rfl, rfl, rfl⟩
  case round =>
    obtain ⟨k, hk, rfl, rfl, rfl⟩ := hrel
    by_cases hlt : k < n
    · have hk1 : (k : Int) < (n : Int) := by omega
      have hk0 : (0 : Int) ≤ (k : Int) := by omega
      obtain ⟨p, hp⟩ : ∃ p, Ps[k]? = some p := ⟨Ps[k]'(by have := HS.out.len; omega), List.getElem?_eq_getElem _⟩
      obtain ⟨ad, B, m, d, rfl, hc, hs⟩ := HS.out.cells k p hp
      have hst := sumL_take hp
      have hsl := sumL_le Ps (k + 1)
      have hml := hs.len
      rw [← hml] at hst
      have HX := Lib.hid hst
      have hm : m ≤ 70000 := by omega
      have hm2 : sumL (Ps.take k) + m ≤ 70000 := by omega
      clear hst hsl hml hs hp
      generalize sumL (Ps.take k) = s at *
      go_wp2_with fail
      go_roundw
      case rel => exact ⟨k + 1, by omega, by rw [HX.out]; go_num, by go_num, trivial⟩
      case measure => simp [intOf]; omega
    · obtain rfl : k = n := by omega
      have hts : Ps.take k = Ps := List.take_of_length_le (by have := HS.out.len; omega)
      rw [hts]
      clear hts
      generalize hss : sumL Ps = s at *
      go_upto_region 7 with fail
      obtain ⟨ad, rfl⟩ : ∃ ad, A = some ad := by
        obtain ⟨p, hp⟩ : ∃ p, Ps[0]? = some p := ⟨Ps[0]'(by have := HS.out.len; omega), List.getElem?_eq_getElem _⟩
        obtain ⟨ad, _, _, _, e, _⟩ := HS.out.cells 0 _ hp
        exact ⟨ad, e⟩
      refine wp_heldB wr.heap.size (by kernel_rfl) (lexOK_of (by kernel_rfl) (by kernel_rfl)) (chainOK_of (by kernel_rfl)) (fun W hbW hSW => ?_)
      have HSl := Lib.hid (HS.out.keep hbW)
      have HBW := Lib.hid hbW
      have HSW := Lib.hid hSW
      have hz0 := hbW.size
      clear hbW hSW
      refine wpHeld_seg 7 HSW.out (by kernel_rfl) ?_
      simp only [List.take_succ_cons, List.take_zero, List.drop_succ_cons, List.drop_zero]
      repeat (go_big_quiet_step (fail))
      refine wpQuiet_nil ?_
      refine wpHeld_call 41 Tryd.func41 (by kernel_rfl) (by kernel_rfl) _ _ #[.int .u64 (s : Int)] rfl (by kernel_rfl) (by kernel_rfl) ?_
      refine (padding_any s _ hL).mono ?_
      rintro e W1 ⟨rfl, hr, hb⟩
      have hz1 := hb.size
      have HR1 := Lib.hid (hr.all (padN_lt s) (n := zerosN s + 9) (c := zerosN s + 9) (padN_length s).symm (Nat.le_refl _) (by have := zerosN_le s; omega))
      have HSl1 := Lib.hid (HSl.out.keep hb)
      have HB1 := Lib.hid (bel_step HBW.out hb)
      have HS1 := Lib.hid (LaterB.step HSW.out (hb.mono hz0))
      clear hb hr
      refine ⟨_, rfl, HS1.out, ?_⟩
      simp only [Act.put, List.setIfInBounds_toArray, List.set_cons_zero, List.set_cons_succ]
      have hb2 : Below W1.heap.size W1 (W1.alloc (.cells #[.slice (some ⟨W.heap.size, 0, none⟩) (zerosN s + 9) (zerosN s + 9)] 22)) := (Below.refl _ _).alloc (Nat.le_refl _) _
      refine wpHeld_run _ _ (by kernel_rfl) (by kernel_rfl) (run_buildP1 _ _ _ rfl rfl _) (LaterB.step HS1.out (hb2.mono (by omega))) ?_
      simp only [Act.put, List.setIfInBounds_toArray, List.set_cons_zero, List.set_cons_succ]
      have HO2 := Lib.hid (One.new W1 22 (.slice (some ⟨W.heap.size, 0, none⟩) (zerosN s + 9) (zerosN s + 9)))
      have HR2 := Lib.hid (HR1.out.keep hb2)
      have HSl2 := Lib.hid (HSl1.out.keep hb2)
      have HB2 := Lib.hid (bel_step HB1.out hb2)
      have HS2 := Lib.hid (LaterB.step HS1.out (hb2.mono (show wr.heap.size ≤ W1.heap.size by omega)))
      have hz2 := hb2.size
      clear hb2
      generalize W1.alloc (.cells #[.slice (some ⟨W.heap.size, 0, none⟩) (zerosN s + 9) (zerosN s + 9)] 22) = W2 at *
      have hpk : Pb W2 (some ad) k k Ps := ⟨HSl2.out.len, Nat.le_refl _, by omega, (fun e => by cases e), HSl2.out.cells⟩
      refine wpHeld_op (by kernel_rfl) (by kernel_rfl) ?_
      refine hOp_appendP (.tmp 23) (.tmp 26) rfl hpk W1.heap.size _ _ _ _ rfl rfl HO2.out HR2.out hn ?_
      intro c' W3 hb3 hp3
      have HP3 := Lib.hid hp3
      have HB3 := Lib.hid (bel_step HB2.out hb3)
      have HS3 := Lib.hid (LaterB.step HS2.out (hb3.mono (by omega)))
      clear hb3 hp3 hpk
      refine ⟨HS3.out, ?_⟩
      simp only [Act.put, List.setIfInBounds_toArray, List.set_cons_zero, List.set_cons_succ]
      refine wpHeld_seg 1 HS3.out (by kernel_rfl) ?_
      simp only [List.take_succ_cons, List.take_zero, List.drop_succ_cons, List.drop_zero]
      repeat (go_big_quiet_step (fail))
      refine wpQuiet_nil (wpHeld_nil ?_)
      go_wp2_with fail
      go_ret
      exact ⟨_, c', rfl, by rw [hss]; exact HP3.out, HB3.out⟩
end Go.Proofs.YtliflbelhogopaaDoor
