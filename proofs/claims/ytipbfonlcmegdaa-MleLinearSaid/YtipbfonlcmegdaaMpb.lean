/- Contracts of package mle, folding: clone, fold, Bind, Eval; no conditions but that lengths are powers of two. Contracts of package mle: Bind and Eval; no conditions but that lengths are powers of two. -/
import Derived.Test.YtipbfonlcmegdaaMpa
namespace Go.Proofs.Ytipbfonlcmegdaa
set_option maxRecDepth 8000
section
open Go.RowKit Gold

/-- the elements when k of them have been replaced -/
def foldAt (xs : List E2) (r : E2) (k : Nat) : List E2 := tabE xs.length fun i => if i < k then bndF (cfE xs) r i else cfE xs i
theorem foldAt_zero (xs : List E2) (r : E2) : foldAt xs r 0 = xs := by
  unfold foldAt
  rw [tabE_congr (g := cfE xs) fun i _ => if_neg (Nat.not_lt_zero _)]
  exact tabE_cfE xs
theorem foldAt_get {xs : List E2} {r : E2} {k i : Nat} (hi : i < xs.length) (hk : k ≤ i) : (foldAt xs r k)[i]? = some (cfE xs i) := by
  unfold foldAt
  rw [tabE_get _ hi, if_neg (by omega)]
theorem foldAt_step {xs : List E2} {r : E2} {k : Nat} (hk : k < xs.length) : (foldAt xs r k).set k (btw r (cfE xs (2 * k)) (cfE xs (2 * k + 1))) = foldAt xs r (k + 1) := by
  apply List.ext_getElem?
  intro i
  rw [List.getElem?_set]
  unfold foldAt
  rw [tabE_length]
  by_cases hi : i < xs.length
  · rw [tabE_get _ hi, tabE_get _ hi]
    by_cases e : k = i
    · subst e
      rw [if_pos rfl, if_pos hk, if_pos (by omega)]
      rfl
    · rw [if_neg e]
      by_cases h : i < k
      · rw [if_pos h, if_pos (by omega)]
      · rw [if_neg h, if_neg (by omega)]
  · rw [if_neg (by omega), List.getElem?_eq_none (by rw [tabE_length]; omega), List.getElem?_eq_none (by rw [tabE_length]; omega)]
theorem foldAt_end (xs : List E2) (r : E2) : (foldAt xs r (xs.length / 2)).take (xs.length / 2) = bndE xs r := by
  apply List.ext_getElem?
  intro i
  rw [List.getElem?_take]
  unfold bndE foldAt
  by_cases hi : i < xs.length / 2
  · rw [if_pos hi, tabE_get _ (by omega), tabE_get _ hi, if_pos hi]
  · rw [if_neg hi, List.getElem?_eq_none (by rw [tabE_length]; omega)]

set_option maxHeartbeats 2000000 in
theorem fold_any (r : E2) (B g n c : Nat) (xs : List E2) (w : World) (hT : Tab w g xs) (hR : Two w B 27 (.int .u64 (vF r.A)) (.int .u64 (vF r.B))) (hg : B ≠ g) (hn : n = xs.length) (hn1 : n ≤ 65536) (hc : n ≤ c) (ht : c ≤ 9223372036854775807) :
    Calls Try.prog 64 #[.slice (some ⟨g, 0, none⟩) n c, .func (.func 94) #[] #[.pointer (some ⟨B, 0, none⟩)]] w fun e w' => e = .returned (.slice (some ⟨g, 0, none⟩) ((n / 2 : Nat)) c) ∧ Tab w' g (bndE xs r) ∧ w.grownBy w' (some g) := by
  have HT0 := Lib.hid hT
  have HR0 := Lib.hid hR
  have HG := Lib.hid hg
  have HN := Lib.hid hn
  clear hT hR hg hn
  go_enter Try.func64, Try.ntmps64
  go_wp2_with fail
  go_loopw [14] (fun s wr => ∃ k : Nat, k ≤ n / 2 ∧ s = .int .i64 k ∧ Tab wr g (foldAt xs r k) ∧ w.grownBy wr (some g)) (fun s _ => n / 2 - (intOf s).toNat)
  case atStart => exact ⟨0, Nat.zero_le _, rfl, by rw [foldAt_zero]; exact HT0.out, grown_of_below (Below.refl _ _)⟩
  case round =>
    obtain ⟨k, hk, rfl, hT, hG⟩ := hrel
    have HT := Lib.hid hT
    have HK := Lib.hid hG
    clear hT hG
    by_cases hlt : k < n / 2
    · have hrw := HR0.out.other HK.out HG.out
      have hx := HT.out.at_ (foldAt_get (r := r) (k := k) (i := 2 * k) (by have := HN.out; omega) (by omega))
      have hy := HT.out.at_ (foldAt_get (r := r) (k := k) (i := 2 * k + 1) (by have := HN.out; omega) (by omega))
      generalize hxe : cfE xs (2 * k) = x at hx
      generalize hye : cfE xs (2 * k + 1) = y at hy
      have EX := Lib.hid hxe
      have EY := Lib.hid hye
      clear hxe hye
      have lx0 := Later.cell hx.1
      have lx1 := Later.cell hx.2
      have ly0 := Later.cell hy.1
      have ly1 := Later.cell hy.2
      have HRW := Lib.hid hrw
      clear hx hy hrw
      have i0 : (0 : Int) ≤ (k : Int) := by omega
      have i1 : 2 * (k : Int) < (n : Int) := by omega
      have i2 : 2 * (k : Int) + 1 < (n : Int) := by omega
      have i3 : (k : Int) < ((n / 2 : Nat) : Int) := by omega
      have i4 : (2 * (k : Int)).toNat = 2 * k := by omega
      have i5 : (2 * (k : Int) + 1).toNat = 2 * k + 1 := by omega
      go_wp2_with fail
      refine wp_later_tail 16 (by kernel_rfl) (by kernel_rfl) ?_
      simp only [List.take_succ_cons, List.take_zero, List.drop_succ_cons, List.drop_zero]
      repeat (go_big_quiet_step ((go_at_call 94; with_reducible exact Calls.later (between1_any r x y B _ (Later.two HRW.out _)))))
      refine wpQuiet_nil ?_
      intro X
      clear lx0 lx1 ly0 ly1
      have HTX := Lib.hid (HT.out.keep X.below)
      have HKX := Lib.hid (grown_then HK.out (grown_of_below (row := some g) X.below))
      have hz := HTX.out.at_ (foldAt_get (r := r) (k := k) (i := k) (by have := HN.out; omega) (Nat.le_refl _))
      have c0 := hz.1
      have c1 := hz.2
      have f0 := HTX.out.free (k * 2)
      have f1 := HTX.out.free (k * 2 + 1)
      clear hz
      go_wp2_with fail
      go_roundw
      case rel => exact ⟨k + 1, by omega, by go_num, by have := HTX.out.set k (btw r x y); rw [← EX.out, ← EY.out, foldAt_step (by have := HN.out; omega)] at this; rw [← EX.out, ← EY.out]; exact this, grown_two HKX.out _ _ _ _⟩
      case measure => simp [intOf]; omega
    · have hkn : k = n / 2 := by omega
      subst hkn
      go_wp2_with fail
      go_ret
      exact ⟨rfl, by have := HT.out.take (n / 2); rw [HN.out, foldAt_end] at this; exact this, HK.out⟩

set_option maxHeartbeats 1000000 in
theorem clone_any (A : Option Addr) (n c : Nat) (xs : List E2) (w : World) (h : Sl w A n c xs) (hn : n ≤ 65536) (h0 : 0 < n) :
    Calls Try.prog 63 #[.slice A n c] w fun e w' => ∃ g c', e = .returned (.slice (some ⟨g, 0, none⟩) n c') ∧ Tab w' g xs ∧ w.heap.size ≤ g ∧ n ≤ c' ∧ c' ≤ 9223372036854775807 ∧ Below w.heap.size w w' := by
  obtain ⟨x, hx⟩ := h.get h0
  obtain ⟨ad, rfl, _, _⟩ := h.at_ hx
  have HS := Lib.hid h
  clear h hx
  go_enter Try.func63, Try.ntmps63
  go_wp2_with (at_builtin; refine wpList_appendSl rfl (.const (.slice none 0 0)) (.tmp 3) rfl (w.heap.size) _ 0 [] rfl (World.ownsRow_nil w _ _ _) ad n c xs rfl HS.out (by omega) (Nat.le_refl _) ?_; intro v1 w1 hown1 hg1; have HO := Lib.hid hown1; have HB := Lib.hid (below_grown (w0 := w) (Below.refl _ _) hg1 (World.ownsRow_nil w w.heap.size 27 2) (Nat.le_refl _)); clear hown1 hg1)
  rw [Nat.zero_add] at HO
  obtain ⟨g, c', rfl, hg, hc, ht, hT⟩ := HO.out.tab h0
  go_ret
  exact ⟨g, c', rfl, hT, hg, hc, ht, HB.out⟩
end

section
open Go.RowKit Gold

set_option maxHeartbeats 2000000 in
theorem mleBind_any (A : Option Addr) (n c : Nat) (xs : List E2) (r : E2) (w : World) (h : Sl w A n c xs) (hn : n ≤ 65536) (h0 : 0 < n) :
    Calls Try.prog 51 #[.slice A n c, .agg #[.int .u64 (vF r.A), .int .u64 (vF r.B)]] w fun e w' => ∃ g c', e = .returned (.slice (some ⟨g, 0, none⟩) ((n / 2 : Nat)) c') ∧ Tab w' g (bndE xs r) ∧ w.heap.size ≤ g ∧ n / 2 ≤ c' ∧ c' ≤ 9223372036854775807 ∧ Below w.heap.size w w' := by
  have HS := Lib.hid h
  have HL := Lib.hid h.len
  clear h
  go_enter Try.func51, Try.ntmps51
  go_wp2_with fail
  refine wp_named1 (fun V hbV g0 hzV => ?_)
  have HY := Lib.hid (show Two V w.heap.size 27 (.int .u64 (vF r.A)) (.int .u64 (vF r.B)) from g0)
  have HSV := Lib.hid (HS.out.keep hbV)
  have HBV := Lib.hid hbV
  clear g0 hbV HS
  have l0 := LaterB.cell (B := w.heap.size + 1) HY.out.c0 (Nat.lt_succ_self _)
  have l1 := LaterB.cell (B := w.heap.size + 1) HY.out.c1 (Nat.lt_succ_self _)
  refine wp_heldB (w.heap.size + 1) (by kernel_rfl) (lexOK_of (by kernel_rfl) (by kernel_rfl)) (chainOK_of (by kernel_rfl)) (fun W hbW hSW => ?_)
  have HYW := Lib.hid (HY.out.keep hbW)
  have HSl := Lib.hid (HSV.out.keep hbW)
  have HBW := Lib.hid (below_step HBV.out hbW)
  have HSW := Lib.hid hSW
  clear hbW hSW
  refine wpHeld_seg 1 HSW.out (by kernel_rfl) ?_
  simp only [List.take_succ_cons, List.take_zero, List.drop_succ_cons, List.drop_zero]
  repeat (go_big_quiet_step (fail))
  refine wpQuiet_nil ?_
  refine wpHeld_call 63 Try.func63 (by kernel_rfl) (by kernel_rfl) _ _ #[.slice A n c] rfl (by kernel_rfl) (by kernel_rfl) ?_
  refine (clone_any A n c xs _ HSl.out hn h0).mono ?_
  rintro e W1 ⟨g, c', rfl, hT, hg, hc, ht, hb⟩
  have HT1 := Lib.hid hT
  have HY1 := Lib.hid (HYW.out.keep hb)
  have HB1 := Lib.hid (below_step HBW.out hb)
  have hz0 : w.heap.size + 1 ≤ W.heap.size := HYW.out.lt
  have hz1 : w.heap.size + 1 ≤ W1.heap.size := HY1.out.lt
  have hgb : w.heap.size + 1 ≤ g := Nat.le_trans hz0 hg
  have HS1 := Lib.hid (LaterB.step HSW.out (hb.mono hz0))
  clear hb hT hg
  refine ⟨_, rfl, HS1.out, ?_⟩
  simp only [Act.put, List.setIfInBounds_toArray, List.set_cons_zero, List.set_cons_succ]
  refine wpHeld_seg 1 HS1.out (by kernel_rfl) ?_
  simp only [List.take_succ_cons, List.take_zero, List.drop_succ_cons, List.drop_zero]
  repeat (go_big_quiet_step (fail))
  refine wpQuiet_nil ?_
  clear l0 l1
  refine wpHeld_call 65 Try.func65 (by kernel_rfl) (by kernel_rfl) _ _ #[.agg #[.int .u64 (vF r.A), .int .u64 (vF r.B)]] rfl (by kernel_rfl) (by kernel_rfl) ?_
  refine (between_any r _).mono ?_
  rintro e W2 ⟨rfl, rfl⟩
  have hb2 : Below W1.heap.size W1 (W1.alloc (.cells #[.int .u64 (vF r.A), .int .u64 (vF r.B)] 27)) := (Below.refl _ _).alloc (Nat.le_refl _) _
  have HT2 := Lib.hid (HT1.out.keep hb2)
  have HR2 := Lib.hid (Two.new W1 27 (.int .u64 (vF r.A)) (.int .u64 (vF r.B)))
  have HB2 := Lib.hid (below_step HB1.out hb2)
  have HS2 := Lib.hid (LaterB.step HS1.out (hb2.mono hz1))
  have hne : W1.heap.size ≠ g := Nat.ne_of_gt HT1.out.lt
  have hz2 : w.heap.size + 1 ≤ (W1.alloc (.cells #[.int .u64 (vF r.A), .int .u64 (vF r.B)] 27)).heap.size := Nat.le_trans hz1 hb2.size
  clear hb2
  refine ⟨_, rfl, HS2.out, ?_⟩
  simp only [Act.put, List.setIfInBounds_toArray, List.set_cons_zero, List.set_cons_succ]
  generalize W1.alloc (.cells #[.int .u64 (vF r.A), .int .u64 (vF r.B)] 27) = W2 at *
  refine wpHeld_call 64 Try.func64 (by kernel_rfl) (by kernel_rfl) _ _ #[.slice (some ⟨g, 0, none⟩) n c', .func (.func 94) #[] #[.pointer (some ⟨W1.heap.size, 0, none⟩)]] rfl (by kernel_rfl) (by kernel_rfl) ?_
  refine (fold_any r W1.heap.size g n c' xs W2 HT2.out HR2.out hne HL.out hn hc ht).mono ?_
  rintro e W3 ⟨rfl, hT3, hg3⟩
  have HT3 := Lib.hid hT3
  have HB3 := Lib.hid (below_of_grown HB2.out hg3 (by omega) (by omega))
  have HS3 := Lib.hid (LaterB.step HS2.out (Below.grown (Below.refl (w.heap.size + 1) _) hg3 hz2 (fun q hq => by cases hq; exact hgb)))
  clear hT3 hg3
  refine ⟨_, rfl, HS3.out, ?_⟩
  simp only [Act.put, List.setIfInBounds_toArray, List.set_cons_zero, List.set_cons_succ]
  refine wpHeld_seg 1 HS3.out (by kernel_rfl) ?_
  simp only [List.take_succ_cons, List.take_zero, List.drop_succ_cons, List.drop_zero]
  repeat (go_big_quiet_step (fail))
  refine wpQuiet_nil (wpHeld_nil ?_)
  go_wp2_with fail
  go_ret
  exact ⟨g, c', rfl, HT3.out, by omega, by omega, ht, HB3.out⟩

set_option maxHeartbeats 4000000 in
theorem mleEval_any (A : Option Addr) (n c : Nat) (xs : List E2) (B : Option Addr) (m d : Nat) (ps : List E2) (w : World) (h : Sl w A n c xs) (h' : Sl w B m d ps) (hn : n = 2 ^ m) (hm : m ≤ 16) :
    Calls Try.prog 16 #[.slice A n c, .slice B m d] w fun e w' => e = .returned (.agg #[.int .u64 (vF (mleE xs ps).A), .int .u64 (vF (mleE xs ps).B)]) ∧ Below w.heap.size w w' := by
  have hmd := h'.cap
  have hdt := h'.top
  have HS := Lib.hid h
  have HP := Lib.hid h'
  have h0 : 0 < n := by rw [hn]; exact Nat.two_pow_pos m
  have hn1 : n ≤ 65536 := by rw [hn]; exact Nat.pow_le_pow_right (n := 2) (by omega) hm
  have HN := Lib.hid hn
  clear h h' hn
  go_enter Try.func16, Try.ntmps16
  go_wp2_with fail
  refine calls_named1 (fun V hbV g0 hzV => ?_)
  have HZ := Lib.hid (show Two V w.heap.size 27 (.int .u64 0) (.int .u64 0) from g0)
  have HSV := Lib.hid (HS.out.keep hbV)
  have HBV := Lib.hid hbV
  clear g0 hbV HS
  refine (clone_any A n c xs _ HSV.out hn1 h0).mono ?_
  rintro e W1 ⟨g, c', rfl, hT, hg, hc, ht, hb⟩
  have HT1 := Lib.hid hT
  have HZ1 := Lib.hid (HZ.out.keep hb)
  have HB1 := Lib.hid (below_step HBV.out hb)
  have hgb : w.heap.size + 1 ≤ g := Nat.le_trans hzV hg
  have hl1 : xs.length = n := HSV.out.len.symm
  have hlp : ps.length = m := HP.out.len.symm
  have HLX := Lib.hid hl1
  have HLP := Lib.hid hlp
  clear hb hT hg HZ HBV HSV hl1 hlp
  go_wp2_with fail
  go_loopw [5, 12] (fun v s wr => ∃ (k N : Nat) (ys : List E2), k ≤ m ∧ s = .int .i64 k ∧ v = .slice (some ⟨g, 0, none⟩) N c' ∧ 0 < N ∧ N ≤ n ∧ N = 2 ^ (m - k) ∧ ys.length = N ∧ mleE ys (ps.drop k) = mleE xs ps ∧ Tab wr g ys ∧ Two wr w.heap.size 27 (.int .u64 0) (.int .u64 0) ∧ Below w.heap.size w wr) (fun _ s _ => m - (intOf s).toNat)
  case atStart => exact ⟨0, n, xs, Nat.zero_le _, rfl, rfl, h0, Nat.le_refl _, by rw [HN.out]; rfl, HLX.out, rfl, HT1.out, HZ1.out, HB1.out⟩
  case round =>
    clear HT1 HZ1 HB1
    obtain ⟨k, N, ys, hk, rfl, rfl, hN0, hNn, hN, hly, hv, hT, hz, hb⟩ := hrel
    have HT := Lib.hid hT
    have HZ := Lib.hid hz
    have HB := Lib.hid hb
    have HN2 := Lib.hid hN
    have HLY := Lib.hid hly
    have HV := Lib.hid hv
    clear hT hz hb hN hly hv
    by_cases hlt : k < m
    · obtain ⟨r, hr⟩ := HP.out.get hlt
      obtain ⟨ad, rfl, p0, p1⟩ := (HP.out.keep HB.out).at_ hr
      have HRr := Lib.hid hr
      clear hr
      go_wp2_with fail
      clear p0 p1
      refine calls_named1 (fun V2 hbV2 g2 hzV2 => ?_)
      have HT2 := Lib.hid (HT.out.keep hbV2)
      have HZ2 := Lib.hid (HZ.out.keep hbV2)
      have HB2 := Lib.hid (below_step HB.out hbV2)
      clear hbV2 g2 HT HZ HB
      refine (between_any r _).mono ?_
      rintro e W2 ⟨rfl, rfl⟩
      have hb2 : Below V2.heap.size V2 (V2.alloc (.cells #[.int .u64 (vF r.A), .int .u64 (vF r.B)] 27)) := (Below.refl _ _).alloc (Nat.le_refl _) _
      have HT3 := Lib.hid (HT2.out.keep hb2)
      have HZ3 := Lib.hid (HZ2.out.keep hb2)
      have HB3 := Lib.hid (below_step HB2.out hb2)
      have HR3 := Lib.hid (Two.new V2 27 (.int .u64 (vF r.A)) (.int .u64 (vF r.B)))
      have hne : V2.heap.size ≠ g := Nat.ne_of_gt HT2.out.lt
      clear hb2
      go_wp2_with fail
      refine (fold_any r V2.heap.size g N c' ys _ HT3.out HR3.out hne HLY.out.symm (by omega) (by omega) ht).mono ?_
      rintro e W4 ⟨rfl, hT4, hg4⟩
      have hne2 : w.heap.size ≠ g := by omega
      have HT4 := Lib.hid hT4
      have HZ4 := Lib.hid (HZ3.out.other hg4 hne2)
      have HB4 := Lib.hid (below_of_grown HB3.out hg4 (by omega) HB3.out.size)
      clear hT4 hg4
      go_wp2_with fail
      have hN3 : N / 2 = 2 ^ (m - (k + 1)) := by
        have := HN2.out
        rw [show m - k = m - (k + 1) + 1 by omega, Nat.pow_succ] at this
        omega
      have hdr : ps.drop k = r :: ps.drop (k + 1) := by
        obtain ⟨hl, he⟩ := List.getElem?_eq_some_iff.1 HRr.out
        rw [List.drop_eq_getElem_cons hl, he]
      have hmle : mleE (bndE ys r) (ps.drop (k + 1)) = mleE xs ps := by
        rw [mleE_cons (by rw [HLY.out, HN2.out, List.length_drop, HLP.out, show m - k = m - (k + 1) + 1 by omega]), ← hdr]
        exact HV.out
      have HN3 := Lib.hid hN3
      have HM3 := Lib.hid hmle
      clear hN3 hmle hdr
      go_roundw
      case rel => exact ⟨k + 1, N / 2, bndE ys r, by omega, by go_num, rfl, by rw [HN3.out]; exact Nat.two_pow_pos _, by omega, HN3.out, by rw [bndE_length, HLY.out], HM3.out, HT4.out, HZ4.out, HB4.out⟩
      case measure => simp [intOf]; omega
    · have hkm : k = m := by omega
      subst hkm
      have hN1 : N = 1 := by rw [HN2.out, Nat.sub_self]
      subst hN1
      obtain ⟨y, hy⟩ : ∃ y, ys[0]? = some y := ⟨ys[0]'(by have := HLY.out; omega), List.getElem?_eq_getElem _⟩
      have hval : mleE xs ps = y := by
        rw [← HV.out, List.drop_eq_nil_of_le (by have := HLP.out; omega), mleE_nil, cfE_some hy]
      have HVL := Lib.hid hval
      have t0 := (HT.out.at_ hy).1
      have t1 := (HT.out.at_ hy).2
      have z0 := HZ.out.c0
      have z1 := HZ.out.c1
      have e0 := HZ.out.f0
      have e1 := HZ.out.f1
      clear hval hy
      go_wp2_with fail
      exact bodyPost_ret (v := .agg #[.int .u64 (vF y.A), .int .u64 (vF y.B)]) (by simp [results, Try.results16, go_sem, z0, z1]) rfl ⟨by rw [HVL.out], (HB.out.setCell (Nat.le_refl _) _).setCell (Nat.le_refl _) _⟩
end

end Go.Proofs.Ytipbfonlcmegdaa
