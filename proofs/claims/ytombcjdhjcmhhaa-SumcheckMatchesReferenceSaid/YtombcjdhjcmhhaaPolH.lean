/- Contracts of package poly: inverses of factorials, weights; no conditions but lengths. -/
import Derived.Test.YtombcjdhjcmhhaaPolE
import Derived.Test.YtombcjdhjcmhhaaPolI
namespace Go.Proofs.Ytombcjdhjcmhhaa
set_option maxRecDepth 8000
open Go.RowKit Gold

def ifacE (i : Nat) : E2 := E2.inv (facE i)
set_option maxHeartbeats 2000000 in
theorem invFac_any (n : Nat) (w : World) (hn : n ≤ 65536) :
    Calls Try.prog 103 #[.int .i64 n] w fun e w' => ∃ g, e = .returned (.slice (some ⟨g, 0, none⟩) n n) ∧ Row w' g (tabE n ifacE) ∧ w.heap.size ≤ g ∧ Below w.heap.size w w' := by
  have hmk := run_makeE n hn
  generalize hr0 : List.replicate n E2.zero = r0 at hmk
  have HR0 := Lib.hid hr0
  clear hr0
  have HM := Lib.hid hmk
  clear hmk
  go_enter Try.func103, Try.ntmps103
  go_wp2_with fail
  refine (polyOne_lit _).mono ?_
  rintro e W1 ⟨rfl, hb1⟩
  have HB1 := Lib.hid hb1
  clear hb1
  go_wp2_with fail
  refine wp_named1 (fun W hbW gW hzW => ?_)
  have HBW := Lib.hid (below_step HB1.out hbW)
  have HF := Lib.hid (show Two W W1.heap.size 43 (.int .u64 (vF (facE 0).A)) (.int .u64 (vF (facE 0).B)) from gW)
  have HW1 := Lib.hid HB1.out.size
  clear hbW gW
  go_loopw [4] (fun s wr => ∃ k : Nat, (k < n ∨ k = 0) ∧ s = .int .i64 ((k : Int) + 1) ∧ Two wr W1.heap.size 43 (.int .u64 (vF (facE k).A)) (.int .u64 (vF (facE k).B)) ∧ Below w.heap.size w wr) (fun s _ => n - (intOf s).toNat)
  case atStart => exact ⟨0, Or.inr rfl, rfl, HF.out, HBW.out⟩
  case round =>
    clear HF HBW
    obtain ⟨k, hk, rfl, hf, hb⟩ := hrel
    have HF := Lib.hid hf
    have HB := Lib.hid hb
    have HK := Lib.hid hk
    clear hf hb hk
    by_cases hlt : k + 1 < n
    · have v0 := HF.out.c0
      have v1 := HF.out.c1
      have f0 := HF.out.f0
      have f1 := HF.out.f1
      have l0 := Later.cell v0
      have l1 := Later.cell v1
      go_wp2_with fail
      refine wp_later_tail 4 (by kernel_rfl) (by kernel_rfl) ?_
      simp only [List.take_succ_cons, List.take_zero, List.drop_succ_cons, List.drop_zero]
      repeat (go_big_quiet_step (first
        | (go_at_call 97; with_reducible exact Calls.later (node_any _ _ (by omega) (by omega)))
        | (go_at_call 63; with_reducible exact Calls.later (extMul_any _ _ _))))
      refine wpQuiet_nil ?_
      intro X
      clear l0 l1
      have hb := X.below
      replace f0 := free_after hb v0 f0
      replace f1 := free_after hb v1 f1
      replace v0 := cell_after hb v0
      replace v1 := cell_after hb v1
      have HF1 := Lib.hid (HF.out.keep hb)
      have HB2 := Lib.hid (below_step HB.out hb)
      clear hb
      go_wp2_with fail
      go_roundw
      case rel => exact ⟨k + 1, Or.inl (by omega), by go_num, (HF1.out.set0 _).set1 _, (HB2.out.setCell HW1.out _).setCell HW1.out _⟩
      case measure => simp [intOf]; omega
    · have hkn : facE k ≠ E2.zero := facE_ne (by have := HK.out; omega)
      have HNZ := Lib.hid hkn
      have hk1 : k ≤ 65536 := by have := HK.out; omega
      clear hkn
      have v0 := HF.out.c0
      have v1 := HF.out.c1
      go_wp2_with fail
      refine (extInv_any (facE k) _ HNZ.out).mono ?_
      rintro e W2 ⟨rfl, hb2⟩
      have HF2 := Lib.hid (HF.out.keep hb2)
      have HB2 := Lib.hid (below_step HB.out hb2)
      clear hb2 v0 v1
      have hmk := HM.out
      go_wp2_with fail
      clear hmk
      refine wp_named2 (fun W3 hb3 g30 g31 hz3 => ?_)
      have HV3 := Lib.hid (show Two W3 W2.heap.size 43 (.int .u64 (vF (ifacE k).A)) (.int .u64 (vF (ifacE k).B)) from g30)
      have HR3 := Lib.hid (show Row W3 (W2.heap.size + 1) r0 from g31)
      have HB3 := Lib.hid (below_step HB2.out hb3)
      have HW2 := Lib.hid HB2.out.size
      clear hb3 g30 g31
      go_loopw [8] (fun s wr => ∃ (j : Nat) (u : E2), j ≤ n ∧ s = .int .i64 ((j : Int) - 1) ∧ (∀ i, j = i + 1 → u = ifacE i) ∧ Two wr W2.heap.size 43 (.int .u64 (vF u.A)) (.int .u64 (vF u.B)) ∧ Row wr (W2.heap.size + 1) (fillR ifacE n j) ∧ Below w.heap.size w wr) (fun s _ => (intOf s + 1).toNat)
      case atStart => exact ⟨n, ifacE k, Nat.le_refl _, rfl, fun i hi => by have := HK.out; congr 1; omega, HV3.out, by rw [fillR_start, HR0.out]; exact HR3.out, HB3.out⟩
      case round =>
        clear HV3 HR3 HB3
        obtain ⟨j, u, hj, rfl, hu, hv, hr, hb⟩ := hrel
        have HU := Lib.hid hu
        have HV := Lib.hid hv
        have HR := Lib.hid hr
        have HB := Lib.hid hb
        clear hu hv hr hb
        cases j with
        | zero =>
          go_wp2_with fail
          go_ret
          exact ⟨_, rfl, by rw [← fillR_end]; exact HR.out, Nat.le_succ_of_le HW2.out, HB.out⟩
        | succ i =>
          have hin : i < n := by omega
          obtain ⟨q, hq⟩ : ∃ q, (fillR ifacE n (i + 1))[i]? = some q := ⟨_, List.getElem?_eq_getElem (by rw [fillR_length]; omega)⟩
          have q0 := (HR.out.at_ hq).1
          have q1 := (HR.out.at_ hq).2
          clear hq
          have p0 := HR.out.free (i * 2)
          have p1 := HR.out.free (i * 2 + 1)
          have v0 := HV.out.c0
          have v1 := HV.out.c1
          go_wp2_with fail
          refine wp_named (fun W5 => Two W5 W2.heap.size 43 (.int .u64 (vF u.A)) (.int .u64 (vF u.B)) ∧ Row W5 (W2.heap.size + 1) (fillR ifacE n i) ∧ Below w.heap.size w W5)
            ⟨(HV.out.far _ (by simp; try omega)).far _ (by simp; try omega), by rw [← fillR_step ifacE hin, ← HU.out i rfl]; exact HR.out.set i u, (HB.out.setCell (Nat.le_succ_of_le HW2.out) _).setCell (Nat.le_succ_of_le HW2.out) _⟩ ?_
          rintro W5 ⟨hv5, hr5, hb5⟩
          have HV5 := Lib.hid hv5
          have HR5 := Lib.hid hr5
          have HB5 := Lib.hid hb5
          clear hv5 hr5 hb5 HV HR HB q0 q1 p0 p1 v0 v1
          have v0 := HV5.out.c0
          have v1 := HV5.out.c1
          have f0 := HV5.out.f0
          have f1 := HV5.out.f1
          have l0 := Later.cell v0
          have l1 := Later.cell v1
          refine wp_later_tail 4 (by kernel_rfl) (by kernel_rfl) ?_
          simp only [List.take_succ_cons, List.take_zero, List.drop_succ_cons, List.drop_zero]
          repeat (go_big_quiet_step (first
            | (go_at_call 97; with_reducible exact Calls.later (node_any _ _ (by omega) (by omega)))
            | (go_at_call 63; with_reducible exact Calls.later (extMul_any _ _ _))))
          refine wpQuiet_nil ?_
          intro X
          clear l0 l1
          have hb := X.below
          replace f0 := free_after hb v0 f0
          replace f1 := free_after hb v1 f1
          replace v0 := cell_after hb v0
          replace v1 := cell_after hb v1
          have HV6 := Lib.hid (HV5.out.keep hb)
          have HR6 := Lib.hid (HR5.out.keep hb)
          have HB6 := Lib.hid (below_step HB5.out hb)
          clear hb
          go_wp2_with fail
          go_roundw
          case rel => exact ⟨i, u * nd i, by omega, by go_num, fun i' hi' => by rw [HU.out i rfl]; subst hi'; exact ifac_step (by omega), (HV6.out.set0 _).set1 _, (HR6.out.far _ (by simp; try omega)).far _ (by simp; try omega), (HB6.out.setCell HW2.out _).setCell HW2.out _⟩
          case measure => simp [intOf]

def rawW (v : List E2) (n i : Nat) : E2 := cfE v i * (ifacE i * ifacE (n - 1 - i))
theorem wtE_raw (v : List E2) (n i : Nat) : wtE v n i = sgE (n - 1 - i) (rawW v n i) := rfl
set_option maxHeartbeats 4000000 in
theorem weighted_any (A : Option Addr) (n c : Nat) (xs : List E2) (w : World) (h : Sl w A n c xs) (hn : n ≤ 65536) :
    Calls Try.prog 96 #[.slice A n c] w fun e w' => ∃ g, e = .returned (.slice (some ⟨g, 0, none⟩) n n) ∧ Row w' g (wtsE xs) ∧ w.heap.size ≤ g ∧ Below w.heap.size w w' := by
  have hnc := h.cap
  have hct := h.top
  have HL := Lib.hid h.len
  have HS := Lib.hid h
  clear h
  have hmk := run_makeE n hn
  generalize hr0 : List.replicate n E2.zero = r0 at hmk
  have HR0 := Lib.hid hr0
  clear hr0
  have HM := Lib.hid hmk
  clear hmk
  go_enter Try.func96, Try.ntmps96
  go_wp2_with fail
  refine (invFac_any n _ hn).mono ?_
  rintro e W1 ⟨g, rfl, hr, hg, hb⟩
  have HI1 := Lib.hid hr
  have HB1 := Lib.hid hb
  have HG := Lib.hid hg
  clear hr hg hb
  have hmk := HM.out
  go_wp2_with fail
  clear hmk
  refine wp_named1 (fun W2 hb2 g2 hz2 => ?_)
  have HI2 := Lib.hid (HI1.out.keep hb2)
  have HB2 := Lib.hid (below_step HB1.out hb2)
  have HC2 := Lib.hid (show Row W2 W1.heap.size r0 from g2)
  have HGW := Lib.hid HI1.out.lt
  have HW1 := Lib.hid HB1.out.size
  clear hb2 g2
  go_loopw [15] (fun s wr => ∃ k : Nat, k ≤ n ∧ s = .int .i64 k ∧ Row wr g (tabE n ifacE) ∧ Row wr W1.heap.size (tabE k (wtE xs n) ++ List.replicate (n - k) E2.zero) ∧ Below w.heap.size w wr) (fun s _ => n - (intOf s).toNat)
  case atStart => exact ⟨0, Nat.zero_le _, rfl, HI2.out, by rw [tab_start, HR0.out]; exact HC2.out, HB2.out⟩
  case round =>
    clear HI2 HC2 HB2
    obtain ⟨k, hk, rfl, hi, hc, hb⟩ := hrel
    have HI := Lib.hid hi
    have HC := Lib.hid hc
    have HB := Lib.hid hb
    clear hi hc hb
    by_cases hlt : k < n
    · obtain ⟨x, hx⟩ := HS.out.get hlt
      obtain ⟨ad, rfl, h0, h1⟩ := HS.out.at_ hx
      have i0 := (HI.out.at_ (tabE_get ifacE hlt)).1
      have i1 := (HI.out.at_ (tabE_get ifacE hlt)).2
      have j0 := (HI.out.at_ (tabE_get ifacE (show n - 1 - k < n by omega))).1
      have j1 := (HI.out.at_ (tabE_get ifacE (show n - 1 - k < n by omega))).2
      have HX := Lib.hid hx
      clear hx
      have HZ := Lib.hid (tab_at (n := n) (wtE xs n) hlt)
      have l0 := Later.cell (cell_keep h0 HB.out)
      have l1 := Later.cell (cell_keep h1 HB.out)
      have l2 := Later.cell i0
      have l3 := Later.cell i1
      have l4 := Later.cell j0
      have l5 := Later.cell j1
      clear h0 h1 i0 i1 j0 j1
      have hk0 : (0 : Int) ≤ (k : Int) := by omega
      have hk1 : (k : Int) < (n : Int) := by omega
      have hk2 : (0 : Int) ≤ (n : Int) - 1 - (k : Int) := by omega
      have hk3 : (n : Int) - 1 - (k : Int) < (n : Int) := by omega
      have hkn : ((n : Int) - 1 - (k : Int)).toNat = n - 1 - k := by omega
      go_wp2_with fail
      refine wp_later_tail 17 (by kernel_rfl) (by kernel_rfl) ?_
      simp only [List.take_succ_cons, List.take_zero, List.drop_succ_cons, List.drop_zero]
      repeat (go_big_quiet_step (first
        | (go_at_call 63; with_reducible exact Calls.later (extMul_any (ifacE k) (ifacE (n - 1 - k)) _))
        | (go_at_call 63; with_reducible exact Calls.later (extMul_any x (ifacE k * ifacE (n - 1 - k)) _))))
      refine wpQuiet_nil ?_
      intro X
      clear l0 l1 l2 l3 l4 l5
      have HI3 := Lib.hid (HI.out.keep X.below)
      have HC3 := Lib.hid (HC.out.keep X.below)
      have HB3 := Lib.hid (below_step HB.out X.below)
      obtain ⟨c0, c1⟩ := HC3.out.at_ HZ.out
      have f0 := HC3.out.free (k * 2)
      have f1 := HC3.out.free (k * 2 + 1)
      clear hkn
      generalize hraw : x * (ifacE k * ifacE (n - 1 - k)) = y
      have HY := Lib.hid (show rawW xs n k = y by unfold rawW; rw [cfE_some HX.out]; exact hraw)
      clear hraw
      by_cases hpar : (n - 1 - k) % 2 = 1
      · have hp1 : (((n : Int) - 1 - (k : Int)) % 2 == 1) = true := by rw [beq_iff_eq]; omega
        have HP := Lib.hid hpar
        clear hpar
        go_wp2_with fail
        refine calls_named (fun W => Row W g (tabE n ifacE) ∧ Row W W1.heap.size ((tabE k (wtE xs n) ++ List.replicate (n - k) E2.zero).set k y) ∧ Below w.heap.size w W)
          ⟨(HI3.out.far _ (Nat.ne_of_lt HGW.out)).far _ (Nat.ne_of_lt HGW.out), HC3.out.set k y, (HB3.out.setCell HW1.out _).setCell HW1.out _⟩ ?_
        rintro W4 ⟨hi4, hc4, hb4⟩
        refine (extNeg_any y _).mono ?_
        rintro e W5 ⟨rfl, hb⟩
        have HI5 := Lib.hid (hi4.keep hb)
        have HC5 := Lib.hid (hc4.keep hb)
        have HB5 := Lib.hid (below_step hb4 hb)
        have HZ5 := Lib.hid (set_at y HZ.out)
        clear hi4 hc4 hb4 hb c0 c1 f0 f1
        obtain ⟨c0, c1⟩ := HC5.out.at_ HZ5.out
        have f0 := HC5.out.free (k * 2)
        have f1 := HC5.out.free (k * 2 + 1)
        go_wp2_with fail
        go_roundw
        case rel => exact ⟨k + 1, by omega, by go_num, (HI5.out.far _ (Nat.ne_of_lt HGW.out)).far _ (Nat.ne_of_lt HGW.out), by rw [← tab_step (n := n) (wtE xs n) hlt, wtE_raw, sgE_odd HP.out, HY.out]; have h9 := HC5.out.set k (-y); rw [List.set_set] at h9; exact h9, (HB5.out.setCell HW1.out _).setCell HW1.out _⟩
        case measure => simp [intOf]; omega
      · have hp1 : (((n : Int) - 1 - (k : Int)) % 2 == 1) = false := by rw [beq_eq_false_iff_ne]; omega
        have HP := Lib.hid hpar
        clear hpar
        go_wp2_with fail
        go_roundw
        case rel => exact ⟨k + 1, by omega, by go_num, (HI3.out.far _ (Nat.ne_of_lt HGW.out)).far _ (Nat.ne_of_lt HGW.out), by rw [← tab_step (n := n) (wtE xs n) hlt, wtE_raw, sgE_even HP.out, HY.out]; exact HC3.out.set k y, (HB3.out.setCell HW1.out _).setCell HW1.out _⟩
        case measure => simp [intOf]; omega
    · have hkn : k = n := by omega
      subst hkn
      go_wp2_with fail
      go_ret
      exact ⟨_, rfl, by unfold wtsE; rw [← HL.out, ← tab_end k]; exact HC.out, HW1.out, HB.out⟩

end Go.Proofs.Ytombcjdhjcmhhaa
