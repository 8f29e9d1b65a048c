/- Contracts of the reference of package ntt: values, Forward, Inverse, Extend; no conditions but that slices hold field elements. -/
import Derived.Test.YtihneehceclffaaNlm
namespace Go.Proofs.Ytihneehceclffaa
open Go.RowKit Gold

/-- block g begins with the elements xs, c cells in all -/
def RowC (w : World) (g c : Nat) (xs : List F) : Prop := ∃ cur : Array Value, w.heap[g]? = some (.cells cur 34 (0, 0)) ∧ cur.size = c ∧ xs.length ≤ c ∧ cur.toList.take xs.length = cellsF xs
theorem RowC.of {w : World} {base n c : Nat} {A : Option Addr} {xs : List F} (h : OwF w base (.slice A n c) n xs) (hn : 0 < n) : ∃ g, A = some ⟨g, 0, none⟩ ∧ base ≤ g ∧ g < w.heap.size ∧ RowC w g c xs := by
  have hl := h.len
  rcases h.2 with ⟨_, h0⟩ | ⟨g, cap, cur, e, hb, hg, hc, hm, hs, ht⟩
  · omega
  · injection e with e1 e2 e3
    subst e1
    subst e3
    rw [Nat.mul_one] at hs ht
    exact ⟨g, rfl, hb, (Array.getElem?_eq_some_iff.1 hg).1, cur, hg, hs, by omega, by rw [← hl]; exact ht⟩
theorem RowC.at_ {w : World} {g c i : Nat} {xs : List F} {x : F} (h : RowC w g c xs) (hx : xs[i]? = some x) : w.cell? ⟨g, i, none⟩ = some (.int .u64 (vF x)) := by
  obtain ⟨cur, hg, hs, hl, ht⟩ := h
  have hu := cellsF_get hx
  have hi := (List.getElem?_eq_some_iff.1 hx).1
  rw [← ht, List.getElem?_take_of_lt hi] at hu
  simpa [World.cell?, hg] using hu
theorem RowC.free {w : World} {g c : Nat} {xs : List F} (h : RowC w g c xs) (k : Nat) : w.frozen? ⟨g, k, none⟩ = false := by
  obtain ⟨cur, hg, _⟩ := h
  simp [World.frozen?, hg]
theorem RowC.set {w : World} {g c : Nat} {xs : List F} (h : RowC w g c xs) (i : Nat) (x : F) : RowC (w.setCell ⟨g, i, none⟩ (.int .u64 (vF x))) g c (xs.set i x) := by
  obtain ⟨cur, hg, hs, hl, ht⟩ := h
  refine ⟨cur.setIfInBounds i (.int .u64 (vF x)), heap_setCell_at hg _, by rw [Array.size_setIfInBounds, hs], by rw [List.length_set]; exact hl, ?_⟩
  rw [List.length_set]
  unfold cellsF at *
  rw [List.map_set, ← ht, Array.toList_setIfInBounds, List.take_set]
theorem RowC.sl {w : World} {g c n : Nat} {xs : List F} (h : RowC w g c xs) (hn : n = xs.length) (ht : c ≤ 9223372036854775807) : Sf w (some ⟨g, 0, none⟩) n c xs := by
  refine ⟨by simpa using hn, by obtain ⟨cur, _, _, hl, _⟩ := h; omega, ht, (fun e => by cases e), fun i z hz => ⟨_, rfl, ?_⟩⟩
  rw [List.getElem?_map] at hz
  cases hx : xs[i]? with
  | none => rw [hx] at hz; cases hz
  | some x =>
    rw [hx] at hz
    injection hz with hz
    subst hz
    rw [ad_base]
    exact h.at_ hx

set_option maxHeartbeats 1000000 in
theorem values_any (A : Option Addr) (n c : Nat) (xs : List F) (v : F) (N : Nat) (w : World) (h : Sf w A n c xs) (hN : N ≤ 65536) :
    Calls Try.prog 34 #[.slice A n c, .int .u64 (vF v), .int .i64 (N : Int)] w fun e w' => ∃ A' c', e = .returned (.slice A' N c') ∧ OwF w' w.heap.size (.slice A' N c') N (tabF N fun i : Nat => evL xs (v ^ i)) ∧ Below w.heap.size w w' := by
  have hcap := h.cap
  have htop := h.top
  have HX := Lib.hid h
  clear h
  go_enter Try.func34, Try.ntmps34
  go_wp2_with fail
  go_loopw [7, 8, 9] (fun o x i wr => ∃ k : Nat, k ≤ N ∧ i = .int .i64 k ∧ x = .int .u64 (vF (v ^ k)) ∧ OwF wr w.heap.size o k (tabF k fun i : Nat => evL xs (v ^ i)) ∧ Below w.heap.size w wr) (fun _ _ i _ => N - (intOf i).toNat)
  case atStart => exact ⟨0, Nat.zero_le _, rfl, by rw [F_pow_zero]; rfl, OwF.made w _ (Nat.le_refl _), (Below.refl _ _).alloc (Nat.le_refl _) _⟩
  case round =>
    obtain ⟨k, hk, rfl, rfl, ho, hb⟩ := hrel
    have HO := Lib.hid ho
    have HB := Lib.hid hb
    clear ho hb
    by_cases hlt : k < N
    · have hpw := Lib.hid (F_pow_succ v k)
      generalize hpe : v ^ k = p at *
      have HPe := Lib.hid hpe
      clear hpe
      go_wp2_with fail
      refine (evalF A n c xs p _ (HX.out.keep HB.out)).mono ?_
      rintro e W1 ⟨rfl, hb1⟩
      have HO1 := Lib.hid (HO.out.keep hb1)
      have HB1 := Lib.hid (bel_step HB.out hb1)
      clear hb1
      go_wp2_with (first | (at_builtin; refine wpList_appendF rfl (.tmp 16) (.tmp 20) rfl (w.heap.size) _ k _ rfl (HO1.out.keep ((Below.refl _ _).alloc (Nat.le_refl _) _)) W1.heap.size 1 (evL xs p) rfl (One.new W1 _ _) (by omega) (by have := HB1.out.size; simp; omega) ?_; intro v2 w2 hown2 hb2; have HO2 := Lib.hid hown2; have HB2 := Lib.hid ((HB1.out.alloc HB1.out.size _).trans hb2); clear hown2 hb2) | (go_at_call 26; refine (rmulF p v _).mono ?_; rintro e w3 ⟨rfl, rfl⟩))
      go_roundw
      case rel => exact ⟨k + 1, by omega, by go_num, by rw [hpw.out], by rw [tabF_succ, HPe.out]; exact HO2.out, HB2.out⟩
      case measure => simp [intOf]; omega
    · obtain rfl : k = N := by omega
      obtain ⟨A1, c1, rfl, hs⟩ := HO.out.sl
      clear hs
      go_wp2_with fail
      go_ret
      exact ⟨_, _, rfl, HO.out, HB.out⟩

theorem vals_fwd {xs : List F} {N q : Nat} (hN : N = 2 ^ q) (hl : xs.length ≤ N) : tabF N (fun i : Nat => evL xs (rootF q ^ i)) = tabF N (fwdF (cfF xs) q) :=
  tabF_congr fun i _ => by unfold fwdF; rw [evL_evF' (by omega)]
theorem inv_root {q : Nat} (hq : q ≤ 32) : invF (rootF q) = vrootF q := (inv_unique (vroot_mul hq)).symm
theorem root_ne {q : Nat} (hq : q ≤ 32) : rootF q ≠ 0 := fun e => by
  have h := vroot_mul hq
  rw [e, F_zero_mul] at h
  exact absurd h (by decide)

set_option maxHeartbeats 400000 in
theorem rforward_yes (A : Option Addr) (n c : Nat) (xs : List F) (q : Nat) (w : World) (h : Sf w A n c xs) (hN : n = 2 ^ q) (hq : q ≤ 16) :
    Calls Try.prog 15 #[.slice A n c] w fun e w' => ∃ A' c', e = .returned (.tuple #[.slice A' n c', .int .i64 0]) ∧ Sf w' A' n c' (tabF n (fwdF (cfF xs) q)) ∧ Below w.heap.size w w' := by
  have hN2 : n ≤ 65536 := by rw [hN]; exact pow2_le hq
  have hl := h.len
  have HN := Lib.hid hN
  have HS := Lib.hid h
  have HV := Lib.hid (vals_fwd (xs := xs) hN (by omega))
  have hq0 : (0 : Int) ≤ (q : Int) := by omega
  clear hN h hl
  go_enter Try.func15, Try.ntmps15
  go_wp2_with (first | (go_at_call 28; refine (log_yes n q _ HN.out hq).mono ?_; rintro e w' ⟨rfl, rfl⟩) | (go_at_call 27; refine (ref_rootF q _ (by omega)).mono ?_; rintro e w' ⟨rfl, rfl⟩))
  refine (values_any A n c xs (rootF q) n _ HS.out hN2).mono ?_
  rintro e W2 ⟨A1, c1, rfl, ho, hb⟩
  rw [HV.out] at ho
  have HO := Lib.hid ho
  have HB := Lib.hid hb
  clear ho hb
  go_wp2_with fail
  go_ret2
  obtain ⟨A2, c2, e, hs⟩ := HO.out.sl
  injection e with e1 e2 e3
  subst e1
  subst e3
  exact ⟨_, _, rfl, hs, HB.out⟩
set_option maxHeartbeats 400000 in
theorem rforward_no (A : Option Addr) (n c : Nat) (xs : List F) (w : World) (h : Sf w A n c xs) (hno : ∀ k : Nat, k ≤ 16 → n ≠ 2 ^ k) :
    Calls Try.prog 15 #[.slice A n c] w fun e w' => e = .returned (.tuple #[.slice none 0 0, .int .i64 1]) ∧ Below w.heap.size w w' := by
  have hcap := h.cap
  have htop := h.top
  have HNo := Lib.hid (show ∀ k : Nat, k ≤ 16 → (n : Int) ≠ ((2 ^ k : Nat) : Int) from fun k hk e => hno k hk (Int.ofNat.inj e))
  clear hno h
  go_enter Try.func15, Try.ntmps15
  go_wp2_with (go_at_call 28; refine (log_no (n : Int) _ HNo.out).mono ?_; rintro e w' ⟨rfl, rfl⟩)
  go_ret2
  exact ⟨rfl, Below.refl _ _⟩

set_option maxHeartbeats 1000000 in
theorem rinverse_yes (A : Option Addr) (n c : Nat) (xs : List F) (q : Nat) (w : World) (h : Sf w A n c xs) (hN : n = 2 ^ q) (hq : q ≤ 16) :
    Calls Try.prog 17 #[.slice A n c] w fun e w' => ∃ A' c', e = .returned (.tuple #[.slice A' n c', .int .i64 0]) ∧ Sf w' A' n c' (tabF n (invT (cfF xs) q)) ∧ Below w.heap.size w w' := by
  have hN1 : 1 ≤ n := by rw [hN]; exact Nat.two_pow_pos q
  have hN2 : n ≤ 65536 := by rw [hN]; exact pow2_le hq
  have hl := h.len
  have HLen := Lib.hid hl
  have HN := Lib.hid hN
  have HS := Lib.hid h
  have HV := Lib.hid (vF_natF (n := n) (by omega))
  have HNE := Lib.hid (natF_ne (n := n) hN1 hN2)
  have hq0 : (0 : Int) ≤ (q : Int) := by omega
  clear hN h hl
  go_enter Try.func17, Try.ntmps17
  go_wp2_with (first | (go_at_call 28; refine (log_yes n q _ HN.out hq).mono ?_; rintro e w' ⟨rfl, rfl⟩) | (go_at_call 27; refine (ref_rootF q _ (by omega)).mono ?_; rintro e w' ⟨rfl, rfl⟩))
  refine (rinvF_any (rootF q) _ (root_ne (by omega))).mono ?_
  rw [inv_root (by omega)]
  rintro e W0 ⟨rfl, hw⟩
  subst hw
  go_wp2_with fail
  rw [← HV.out]
  refine (rinvF_any (natF n) _ HNE.out).mono ?_
  rw [HV.out]
  obtain ⟨s, hs⟩ : ∃ s, s = invF (natF n) := ⟨_, rfl⟩
  rw [← hs]
  have HSc := Lib.hid hs
  clear hs
  rintro e W0 ⟨rfl, hw⟩
  subst hw
  go_wp2_with fail
  refine (values_any A n c xs (vrootF q) n _ HS.out hN2).mono ?_
  rintro e W2 ⟨A1, c1, rfl, ho, hb⟩
  obtain ⟨A2, c2, e, hs⟩ := ho.sl
  injection e with e1 e2 e3
  subst e1
  subst e3
  have hcap := hs.cap
  have htop := hs.top
  obtain ⟨g, rfl, hg1, hg2, hrc⟩ := RowC.of ho (by omega)
  have HRC := Lib.hid hrc
  have HB := Lib.hid hb
  clear ho hb hs hrc e2
  go_wp2_with fail
  obtain ⟨f, hf⟩ : ∃ f : Nat → F, f = fun i : Nat => evL xs (vrootF q ^ i) := ⟨_, rfl⟩
  rw [← hf] at HRC
  have HF := Lib.hid hf
  clear hf
  go_loopw [12] (fun i wr => ∃ k : Nat, k ≤ n ∧ i = .int .i64 k ∧ RowC wr g c1 (tabF n fun p => if p < k then f p * s else f p) ∧ W2.grownBy wr (some g)) (fun i _ => n - (intOf i).toNat)
  case atStart => exact ⟨0, Nat.zero_le _, rfl, by rw [tabF_congr (g := f) fun p _ => if_neg (Nat.not_lt_zero _)]; exact HRC.out, World.grownBy.refl _ _⟩
  case round =>
    obtain ⟨k, hk, rfl, hr, hgr⟩ := hrel
    have HR := Lib.hid hr
    have HG := Lib.hid hgr
    clear hr hgr
    by_cases hlt : k < n
    · have h2 := HR.out.at_ (tabF_get (fun p => if p < k then f p * s else f p) hlt)
      rw [if_neg (Nat.lt_irrefl _)] at h2
      have h3 := HR.out.free k
      generalize hxe : f k = x at *
      have EX := Lib.hid hxe
      clear hxe
      go_wp2_with (go_at_call 26; refine (rmulF x s _).mono ?_; rintro e w1 ⟨rfl, rfl⟩)
      have HR3 := Lib.hid (show RowC (w1.setCell ⟨g, k, none⟩ (.int .u64 (vF (x * s)))) g c1 (tabF n fun p => if p < k + 1 then f p * s else f p) by
        have h4 := HR.out.set k (x * s)
        rw [tabF_set, tabF_congr (g := fun p => if p < k + 1 then f p * s else f p) fun p _ => ?_] at h4
        · exact h4
        · by_cases e : p = k
          · subst e
            rw [if_pos rfl, if_pos (Nat.lt_succ_self _), EX.out]
          · rw [if_neg e]
            by_cases h5 : p < k
            · rw [if_pos h5, if_pos (by omega)]
            · rw [if_neg h5, if_neg (by omega)])
      go_roundw
      case rel => exact ⟨k + 1, by omega, by go_num, HR3.out, grown_trans HG.out (grown_set _ _ _ _)⟩
      case measure => simp [intOf]; omega
    · obtain rfl : k = n := by omega
      go_wp2_with fail
      go_ret2
      refine ⟨_, _, rfl, ?_, Below.grown HB.out HG.out (by have := HB.out.size; omega) (fun r e => by injection e with e; omega)⟩
      have h6 := HR.out.sl (tabF_length _ _).symm htop
      refine h6.cast (tabF_congr fun p hp => ?_)
      rw [if_pos hp, HF.out, HSc.out]
      unfold invT
      rw [HN.out, evL_evF' (by rw [← HN.out, ← HLen.out]; exact Nat.le_refl _), F_mul_comm]
set_option maxHeartbeats 400000 in
theorem rinverse_no (A : Option Addr) (n c : Nat) (xs : List F) (w : World) (h : Sf w A n c xs) (hno : ∀ k : Nat, k ≤ 16 → n ≠ 2 ^ k) :
    Calls Try.prog 17 #[.slice A n c] w fun e w' => e = .returned (.tuple #[.slice none 0 0, .int .i64 1]) ∧ Below w.heap.size w w' := by
  have hcap := h.cap
  have htop := h.top
  have HNo := Lib.hid (show ∀ k : Nat, k ≤ 16 → (n : Int) ≠ ((2 ^ k : Nat) : Int) from fun k hk e => hno k hk (Int.ofNat.inj e))
  clear hno h
  go_enter Try.func17, Try.ntmps17
  go_wp2_with (go_at_call 28; refine (log_no (n : Int) _ HNo.out).mono ?_; rintro e w' ⟨rfl, rfl⟩)
  go_ret2
  exact ⟨rfl, Below.refl _ _⟩

end Go.Proofs.Ytihneehceclffaa
