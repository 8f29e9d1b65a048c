/- Contracts of package mle: the table of the weights; no conditions but lengths. -/
import Derived.Test.YtipbfonlcmegdaaMpa
import Derived.Test.YtipbfonlcmegdaaNbit
import Derived.Test.YtipbfonlcmegdaaLex
import Derived.Deep.QuietTactic
import Derived.BigQuiet
namespace Go.Proofs.Ytipbfonlcmegdaa
set_option maxRecDepth 8000
open Go.RowKit Gold

/-- the weights of the first k coordinates -/
def wtAt (ps : List E2) (k p : Nat) : E2 := if p < 2 ^ k then eqW p (ps.take k) else E2.zero
/-- under way: t of them have been split by coordinate k -/
def wtIn (ps : List E2) (k t p : Nat) : E2 := if p < t ∨ (2 ^ k ≤ p ∧ p < 2 ^ k + t) then eqW p (ps.take (k + 1)) else wtAt ps k p
theorem wtIn_zero (ps : List E2) (k p : Nat) : wtIn ps k 0 p = wtAt ps k p := by unfold wtIn; rw [if_neg (by omega)]
theorem wtIn_end (ps : List E2) (k p : Nat) : wtIn ps k (2 ^ k) p = wtAt ps (k + 1) p := by
  unfold wtIn wtAt
  by_cases h : p < 2 ^ (k + 1)
  · rw [if_pos h, if_pos (by rw [Nat.pow_succ] at h; omega)]
  · rw [if_neg h, if_neg (by rw [Nat.pow_succ] at h; omega), if_neg (by rw [Nat.pow_succ] at h; omega)]
theorem wtIn_low {ps : List E2} {k t : Nat} (h : t < 2 ^ k) : wtIn ps k t t = eqW t (ps.take k) := by
  unfold wtIn wtAt
  rw [if_neg (by omega), if_pos h]
theorem wtIn_step {ps : List E2} {k t N : Nat} {r : E2} (hr : ps[k]? = some r) (ht : t < 2 ^ k) :
    ((tabE N (wtIn ps k t)).set (2 ^ k + t) (eqW t (ps.take k) * r)).set t (eqW t (ps.take k) - eqW t (ps.take k) * r) = tabE N (wtIn ps k (t + 1)) := by
  obtain ⟨hl, he⟩ := List.getElem?_eq_some_iff.1 hr
  have htk : (ps.take k).length = k := by rw [List.length_take]; omega
  have hsn : ps.take (k + 1) = ps.take k ++ [r] := by rw [List.take_succ_eq_append_getElem hl, he]
  have h1 : eqW t (ps.take (k + 1)) = eqW t (ps.take k) - eqW t (ps.take k) * r := by rw [hsn, eqW_low (by rw [htk]; exact ht)]
  have h2 : eqW (2 ^ k + t) (ps.take (k + 1)) = eqW t (ps.take k) * r := by
    have := eqW_high (p := ps.take k) (r := r) (i := t) (by rw [htk]; exact ht)
    rw [htk, Nat.add_comm] at this
    rw [hsn, this]
  apply List.ext_getElem?
  intro p
  rw [List.getElem?_set, List.getElem?_set, List.length_set, tabE_length]
  by_cases hp : p < N
  · rw [tabE_get _ hp, tabE_get _ hp]
    by_cases e1 : t = p
    · subst e1
      rw [if_pos rfl, if_pos hp, ← h1]
      unfold wtIn
      rw [if_pos (Or.inl (Nat.lt_succ_self _))]
    · rw [if_neg e1]
      by_cases e2 : 2 ^ k + t = p
      · subst e2
        rw [if_pos rfl, if_pos hp, ← h2]
        unfold wtIn
        rw [if_pos (Or.inr (by omega))]
      · rw [if_neg e2]
        unfold wtIn
        by_cases c : p < t ∨ (2 ^ k ≤ p ∧ p < 2 ^ k + t)
        · rw [if_pos c, if_pos (by omega)]
        · rw [if_neg c, if_neg (by omega)]
  · rw [List.getElem?_eq_none (l := tabE N (wtIn ps k t)) (by rw [tabE_length]; omega), List.getElem?_eq_none (l := tabE N (wtIn ps k (t + 1))) (by rw [tabE_length]; omega)]
    by_cases e1 : t = p
    · rw [if_pos e1, if_neg (by omega)]
    · rw [if_neg e1]
      by_cases e2 : 2 ^ k + t = p
      · rw [if_pos e2, if_neg (by omega)]
      · rw [if_neg e2]
theorem wtAt_first {N : Nat} (ps : List E2) (hN : 0 < N) : (List.replicate N E2.zero).set 0 E2.one = tabE N (wtAt ps 0) := by
  apply List.ext_getElem?
  intro p
  rw [List.getElem?_set, List.length_replicate]
  by_cases hp : p < N
  · rw [tabE_get _ hp]
    unfold wtAt
    by_cases e : 0 = p
    · subst e
      rw [if_pos rfl, if_pos hN]
      rfl
    · rw [if_neg e, if_neg (by simp; omega), List.getElem?_replicate, if_pos hp]
  · rw [List.getElem?_eq_none (l := tabE N (wtAt ps 0)) (by rw [tabE_length]; omega)]
    by_cases e : 0 = p
    · omega
    · rw [if_neg e, List.getElem?_replicate, if_neg hp]
theorem wtAt_last {ps : List E2} {n : Nat} (h : ps.length = n) : tabE (2 ^ n) (wtAt ps n) = eqT ps := by
  unfold eqT
  rw [h]
  refine tabE_congr fun p hp => ?_
  unfold wtAt
  rw [if_pos hp, List.take_of_length_le (by omega)]

set_option maxHeartbeats 4000000 in
theorem mleEqTable_any (B : Option Addr) (n d : Nat) (ps : List E2) (w : World) (h : Sl w B n d ps) (hn : n ≤ 16) :
    Calls Try.prog 52 #[.slice B n d] w fun e w' => ∃ g N, e = .returned (.slice (some ⟨g, 0, none⟩) N N) ∧ N = 2 ^ n ∧ Row w' g (eqT ps) ∧ Below w.heap.size w w' := by
  have hcap := h.cap
  have htop := h.top
  have HP := Lib.hid h
  have HL := Lib.hid h.len
  clear h
  obtain ⟨N, hN⟩ : ∃ N, N = 2 ^ n := ⟨_, rfl⟩
  have hN0 : 0 < N := by rw [hN]; exact Nat.two_pow_pos n
  have hN1 : N ≤ 65536 := by rw [hN]; exact Nat.pow_le_pow_right (n := 2) (by omega) hn
  have hw : wrap64 (2 ^ n) = (N : Int) := by rw [hN]; exact wrap_pow2 (by omega)
  have HN := Lib.hid hN
  clear hN
  have hmk := run_makeE N hN1
  generalize hr0 : List.replicate N E2.zero = r0 at hmk
  have HR0 := Lib.hid hr0
  clear hr0
  go_enter Try.func52, Try.ntmps52
  go_wp2_with fail
  clear hmk hw
  refine (mleOne_any _).mono ?_
  rintro e W1 ⟨rfl, hb⟩
  have HR1 := Lib.hid (show Row W1 w.heap.size r0 from heap_keep (heap_new w _) hb)
  have HB1 := Lib.hid (below_step ((Below.refl _ w).alloc (Nat.le_refl _) _) hb)
  clear hb
  have hz := HR1.out.at_ (i := 0) (x := E2.zero) (by rw [← HR0.out, List.getElem?_replicate, if_pos hN0])
  have c0 := hz.1
  have c1 := hz.2
  simp only [Nat.zero_mul, Nat.zero_add] at c0 c1
  have f0 := HR1.out.free 0
  have f1 := HR1.out.free 1
  clear hz
  go_wp2_with fail
  clear c0 c1 f0 f1
  go_loopw [22] (fun s wr => ∃ k : Nat, k ≤ n ∧ s = .int .i64 k ∧ Row wr w.heap.size (tabE N (wtAt ps k)) ∧ Below w.heap.size w wr) (fun s _ => n - (intOf s).toNat)
  case atStart => exact ⟨0, Nat.zero_le _, rfl, by have := HR1.out.set 0 E2.one; simp only [Nat.zero_mul, Nat.zero_add] at this; rw [← HR0.out, wtAt_first ps hN0] at this; exact this, (HB1.out.setCell (Nat.le_refl _) _).setCell (Nat.le_refl _) _⟩
  case round =>
    clear HR1 HB1
    obtain ⟨k, hk, rfl, hr, hb⟩ := hrel
    have HR := Lib.hid hr
    have HB := Lib.hid hb
    clear hr hb
    by_cases hlt : k < n
    · obtain ⟨r, hr⟩ := HP.out.get hlt
      obtain ⟨ad, rfl, p0, p1⟩ := (HP.out.keep HB.out).at_ hr
      have HX := Lib.hid hr
      clear hr
      obtain ⟨M, hM⟩ : ∃ M, M = 2 ^ k := ⟨_, rfl⟩
      have hMw : wrap64 (2 ^ k) = (M : Int) := by rw [hM]; exact wrap_pow2 (by omega)
      have hM0 : 0 < M := by rw [hM]; exact Nat.two_pow_pos k
      have hMN : M + M ≤ N := by
        have h2 : 2 ^ (k + 1) ≤ 2 ^ n := Nat.pow_le_pow_right (by omega) (by omega)
        rw [Nat.pow_succ] at h2
        rw [hM, HN.out]
        omega
      have HM := Lib.hid hM
      clear hM
      have hk1 : (k : Int) < (n : Int) := by omega
      have hk0 : (0 : Int) ≤ (k : Int) := by omega
      go_wp2_with fail
      clear p0 p1
      refine wp_named1 (fun V hbV g0 hzV => ?_)
      have HT := Lib.hid (show Two V wr.heap.size 27 (.int .u64 (vF r.A)) (.int .u64 (vF r.B)) from g0)
      have HRV := Lib.hid (HR.out.keep hbV)
      have HBV := Lib.hid (below_step HB.out hbV)
      have hgr : w.heap.size < wr.heap.size := HR.out.lt
      clear hbV g0
      have i1 : (M : Int) ≤ (N : Int) := by omega
      refine wp_later_lex (by kernel_rfl) (lexOK_of (by kernel_rfl) (by kernel_rfl)) ?_
      repeat (go_big_quiet_step (fail))
      refine wpQuiet_nil ?_
      intro X
      have HTX := Lib.hid (HT.out.keep X.below)
      have HRX := Lib.hid (HRV.out.keep X.below)
      have HBX := Lib.hid (below_step HBV.out X.below)
      clear HT HRV HBV
      generalize X.at = V2 at *
      clear HR HB hMw
      generalize wr.heap.size = bt at *
      go_wp2_with fail
      go_loopw [37] (fun s w2 => ∃ t : Nat, t ≤ M ∧ s = .int .i64 t ∧ Row w2 w.heap.size (tabE N (wtIn ps k t)) ∧ Two w2 bt 27 (.int .u64 (vF r.A)) (.int .u64 (vF r.B)) ∧ Below w.heap.size w w2) (fun s _ => M - (intOf s).toNat)
      case atStart => exact ⟨0, Nat.zero_le _, rfl, by rw [tabE_congr fun p _ => wtIn_zero ps k p]; exact HRX.out, HTX.out, HBX.out⟩
      case round =>
        clear HRX HTX HBX
        obtain ⟨t, ht, rfl, hr, htw, hb⟩ := hrel
        have HR2 := Lib.hid hr
        have HT2 := Lib.hid htw
        have HB2 := Lib.hid hb
        clear hr htw hb
        by_cases hltt : t < M
        · have hc := HR2.out.at_ (tabE_get (i := t) (wtIn ps k t) (by omega))
          rw [wtIn_low (by rw [← HM.out]; exact hltt)] at hc
          generalize hq : eqW t (ps.take k) = q at hc
          have HQ := Lib.hid hq
          clear hq
          have c0 := hc.1
          have c1 := hc.2
          clear hc
          have j1 : (t : Int) < (M : Int) := by omega
          have j0 : (0 : Int) ≤ (t : Int) := by omega
          have j2 : (t : Int) < ((N - M : Nat) : Int) := by omega
          have k0 := cell_alloc HT2.out.c0 (.cells #[.int .u64 (vF q.A), .int .u64 (vF q.B)] 27)
          have k1 := cell_alloc HT2.out.c1 (.cells #[.int .u64 (vF q.A), .int .u64 (vF q.B)] 27)
          go_wp2_with fail
          clear k0 k1 c0 c1
          refine calls_named1 (fun V3 hbV g0 hzV3 => ?_)
          have HQ3 := Lib.hid (show Two V3 _ 27 (.int .u64 (vF q.A)) (.int .u64 (vF q.B)) from g0)
          have HR3 := Lib.hid (HR2.out.keep hbV)
          have HT3 := Lib.hid (HT2.out.keep hbV)
          have HB3 := Lib.hid (below_step HB2.out hbV)
          have hgq := HR2.out.lt
          clear hbV g0 HR2 HT2 HB2
          refine (extMul_any q r _).mono ?_
          rintro e W4 ⟨rfl, hb⟩
          have HQ4 := Lib.hid (HQ3.out.keep hb)
          have HR4 := Lib.hid (HR3.out.keep hb)
          have HT4 := Lib.hid (HT3.out.keep hb)
          have HB4 := Lib.hid (below_step HB3.out hb)
          clear hb HR3 HT3 HB3 HQ3
          generalize hy : q * r = y
          have HY := Lib.hid hy
          clear hy
          have ea : (M + t) * 2 = M * 2 + t * 2 := Nat.add_mul _ _ _
          have hz := HR4.out.at_ (tabE_get (i := M + t) (wtIn ps k t) (by omega))
          rw [ea] at hz
          have c0 := hz.1
          have c1 := hz.2
          have f0 := HR4.out.free (M * 2 + t * 2)
          have f1 := HR4.out.free (M * 2 + t * 2 + 1)
          clear hz
          go_wp2_with fail
          refine wp_named (fun W5 => Row W5 w.heap.size ((tabE N (wtIn ps k t)).set (M + t) y) ∧ Two W5 wr.heap.size 27 (.int .u64 (vF q.A)) (.int .u64 (vF q.B)) ∧ Two W5 bt 27 (.int .u64 (vF r.A)) (.int .u64 (vF r.B)) ∧ Below w.heap.size w W5)
            ⟨by have := HR4.out.set (M + t) y; rw [ea] at this; exact this, (HQ4.out.far _ (by simp; omega)).far _ (by simp; omega), (HT4.out.far _ (by simp; omega)).far _ (by simp; omega), (HB4.out.setCell (by simp) _).setCell (by simp) _⟩ ?_
          rintro W5 ⟨hr5, hq5, ht5, hb5⟩
          have HR5 := Lib.hid hr5
          have HT5 := Lib.hid ht5
          have HB5 := Lib.hid hb5
          clear c0 c1 f0 f1 HR4 HQ4 HT4 HB4 hr5 ht5 hb5
          have hz := HR5.out.at_ (i := M + t) (x := y) (by rw [List.getElem?_set, if_pos rfl, tabE_length, if_pos (by omega)])
          rw [ea] at hz
          have l0 := Later.cell hq5.c0
          have l1 := Later.cell hq5.c1
          have l2 := Later.cell hz.1
          have l3 := Later.cell hz.2
          clear hz hq5
          refine wp_later_tail 9 (by kernel_rfl) (by kernel_rfl) ?_
          simp only [List.take_succ_cons, List.take_zero, List.drop_succ_cons, List.drop_zero]
          repeat (go_big_quiet_step ((go_at_call 86; with_reducible exact Calls.later (extSub_any q y _))))
          refine wpQuiet_nil ?_
          intro X2
          clear l0 l1 l2 l3
          have HR6 := Lib.hid (HR5.out.keep X2.below)
          have HT6 := Lib.hid (HT5.out.keep X2.below)
          have HB6 := Lib.hid (below_step HB5.out X2.below)
          have hz := HR6.out.at_ (i := t) (x := wtIn ps k t t) (by rw [List.getElem?_set, if_neg (by omega)]; exact tabE_get _ (by omega))
          have c0 := hz.1
          have c1 := hz.2
          have f0 := HR6.out.free (t * 2)
          have f1 := HR6.out.free (t * 2 + 1)
          clear hz HR5 HT5 HB5
          go_wp2_with fail
          have HST := Lib.hid (show Row _ w.heap.size (tabE N (wtIn ps k (t + 1))) by
            have h1 := HR6.out.set t (q - y)
            have h2 := wtIn_step (N := N) HX.out (show t < 2 ^ k by rw [← HM.out]; exact hltt)
            rw [HQ.out, HY.out, ← HM.out] at h2
            rw [h2] at h1
            exact h1)
          go_roundw
          case rel => exact ⟨t + 1, by omega, by go_num, HST.out, (HT6.out.far _ (by simp; omega)).far _ (by simp; omega), (HB6.out.setCell (by simp) _).setCell (by simp) _⟩
          case measure => simp [intOf]; omega
        · have htm : t = M := by omega
          subst htm
          go_wp2_with fail
          go_roundw
          case rel => exact ⟨k + 1, by omega, by go_num, by have := HR2.out; rw [HM.out, tabE_congr fun p _ => wtIn_end ps k p] at this; exact this, HB2.out⟩
          case measure => simp [intOf]; omega
    · have hkn : k = n := by omega
      subst hkn
      go_wp2_with fail
      go_ret
      exact ⟨_, N, rfl, HN.out, by have := HR.out; rw [HN.out, wtAt_last HL.out.symm] at this; exact this, HB.out⟩

end Go.Proofs.Ytipbfonlcmegdaa
