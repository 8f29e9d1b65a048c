/- Contracts of package ntt, its parts: scatter, rootPowers, butterflies; no conditions but that lengths are powers of two up to 2^16 and that slices lie in memory as the package's own calls lay them. -/
import Derived.Test.YtihneehceclffaaNbit
import Derived.Deep.QuietTactic
import Derived.BigQuiet
namespace Go.Proofs.Ytihneehceclffaa
open Go.RowKit Gold

theorem revN_zero : ∀ K, revN K 0 = 0
  | 0 => rfl
  | K + 1 => by show revN K (0 / 2) + 0 % 2 * 2 ^ K = 0; rw [Nat.zero_div, revN_zero K]; omega
/-- what lies at p when the first k elements have been put at their places -/
def scatF (xs : List F) (K k p : Nat) : F := if revN K p < k then cfF xs (revN K p) else 0
theorem scat_zero (xs : List F) (K p : Nat) : scatF xs K 0 p = 0 := if_neg (Nat.not_lt_zero _)
theorem scat_step {xs : List F} {K N k : Nat} {x : F} (hN : N = 2 ^ K) (hk : k < N) (hx : xs[k]? = some x) : (tabF N (scatF xs K k)).set (revN K k) x = tabF N (scatF xs K (k + 1)) := by
  rw [tabF_set]
  refine tabF_congr fun p hp => ?_
  by_cases e : p = revN K k
  · rw [if_pos e, e]
    unfold scatF
    rw [revN_rev K k (by omega), if_pos (by omega), cfF_some hx]
  · rw [if_neg e]
    have h : revN K p ≠ k := fun h => e (by rw [← h, revN_rev K p (by omega)])
    unfold scatF
    by_cases h1 : revN K p < k
    · rw [if_pos h1, if_pos (by omega)]
    · rw [if_neg h1, if_neg (by omega)]
theorem scat_last {xs : List F} {K n : Nat} (hn : n = xs.length) (p : Nat) : scatF xs K n p = stF (cfF xs) K 0 p := by
  rw [stF_first]
  unfold scatF
  split
  · rfl
  · rw [cfF_none (by omega)]
/-- adding one from the highest bit downward, under way -/
def ScatI (K k : Nat) (p b : Value) : Prop := ∃ m i P B : Nat, p = .int .i64 (P : Int) ∧ b = .int .i64 (B : Int) ∧ P = revN m i ∧ B = 2 ^ m / 2 ∧ revN K (k + 1) = revN m (i + 1) ∧ m ≤ K

set_option maxHeartbeats 1000000 in
theorem scatter_any (A : Option Addr) (n c : Nat) (xs : List F) (N K : Nat) (w : World) (h : Sf w A n c xs) (hN : N = 2 ^ K) (hK : K ≤ 16) (hn : n ≤ N) :
    Calls Try.prog 40 #[.slice A n c, .int .i64 (N : Int)] w fun e w' => e = .returned (.slice (some ⟨w.heap.size, 0, none⟩) N N) ∧ RowF w' w.heap.size (tabF N (stF (cfF xs) K 0)) ∧ Below w.heap.size w w' := by
  have hN1 : 1 ≤ N := by rw [hN]; exact Nat.two_pow_pos K
  have hN2 : N ≤ 65536 := by rw [hN]; exact pow2_le hK
  have hcap := h.cap
  have htop := h.top
  have HN := Lib.hid hN
  have HS := Lib.hid h
  clear hN h
  have hmk := run_makeF N (by omega)
  go_enter Try.func40, Try.ntmps40
  go_wp2_with fail
  clear hmk
  go_loopw [6, 14] (fun p i wr => ∃ k P : Nat, k ≤ n ∧ i = .int .i64 k ∧ p = .int .i64 P ∧ P = revN K k ∧ RowF wr w.heap.size (tabF N (scatF xs K k)) ∧ Below w.heap.size w wr) (fun _ i _ => n - (intOf i).toNat)
  case atStart => exact ⟨0, 0, Nat.zero_le _, rfl, rfl, (revN_zero K).symm, by rw [tabF_congr (g := fun _ => 0) fun p _ => scat_zero xs K p]; exact rowF_made w _, (Below.refl _ _).alloc (Nat.le_refl _) _⟩
  case round =>
    obtain ⟨k, P, hk, rfl, rfl, hP, hr, hb⟩ := hrel
    have HP := Lib.hid hP
    have HR := Lib.hid hr
    have HB := Lib.hid hb
    clear hP hr hb
    by_cases hlt : k < n
    · obtain ⟨x, hx⟩ := HS.out.get hlt
      obtain ⟨ad, rfl, h0⟩ := HS.out.at_ hx
      have h1 := cell_keep h0 HB.out
      have hPN : P < N := by rw [HP.out, HN.out]; exact revN_lt _ _
      obtain ⟨y, hy⟩ : ∃ y, (tabF N (scatF xs K k))[P]? = some y := ⟨_, tabF_get _ hPN⟩
      have h2 := HR.out.at_ hy
      have h3 := HR.out.free P
      have HX := Lib.hid hx
      clear hx h0 hy
      go_wp2_with fail
      have HR1 := Lib.hid (by have := HR.out.set P x; rw [HP.out, scat_step HN.out (by omega) HX.out, ← HP.out] at this; exact this : RowF (wr.setCell ⟨w.heap.size, P, none⟩ (.int .u64 (vF x))) w.heap.size (tabF N (scatF xs K (k + 1))))
      have HB1 := Lib.hid (HB.out.setCell (p := ⟨w.heap.size, P, none⟩) (Nat.le_refl _) (.int .u64 (vF x)))
      clear h1 h2 h3 HR
      go_loop [6, 9] (fun p b => ScatI K k p b) (fun _ b => (intOf b).toNat)
      case atStart => exact ⟨K, k, P, N / 2, rfl, by go_num, HP.out, by rw [HN.out], rfl, Nat.le_refl _⟩
      case round =>
        obtain ⟨m, i, P1, B1, rfl, rfl, e1, e2, e3, hm⟩ := hrel
        have E3 := Lib.hid e3
        clear e3
        cases m with
        | zero =>
          obtain rfl : P1 = 0 := e1
          obtain rfl : B1 = 0 := e2
          have hb : (bits .and .i64 ((0 : Nat) : Int) ((0 : Nat) : Int) != 0) = false := by rw [bits_and_i64_nat _ _ (by omega) (by omega)]; rfl
          go_wp2_with fail
          go_roundw
          case rel => exact ⟨k + 1, 0, by omega, by go_num, rfl, E3.out.symm, HR1.out, HB1.out⟩
          case measure => simp [intOf]; omega
        | succ m =>
          have hl1 : revN (m + 1) i < 65536 + 1 := by have := revN_lt (m + 1) i; have := pow2_le (k := m + 1) (by omega); omega
          have hl2 : 2 ^ m ≤ 65536 := pow2_le (by omega)
          have hp0 := Nat.two_pow_pos m
          have hB : B1 = 2 ^ m := by rw [e2, pow2_succ]; omega
          have hand : bits .and .i64 (P1 : Int) (B1 : Int) = ((i % 2 * 2 ^ m : Nat) : Int) := by rw [bits_and_i64_nat _ _ (by omega) (by omega), e1, hB, rev_and]
          by_cases hi : i % 2 = 0
          · have hb : (bits .and .i64 (P1 : Int) (B1 : Int) != 0) = false := by rw [hand, hi]; simp
            obtain ⟨f1, f2⟩ := rev_even (m := m) hi
            have hs : P1 + B1 = revN K (k + 1) := by rw [E3.out, f2, e1, hB]
            have hsl : revN K (k + 1) ≤ 65536 := by have := revN_lt K (k + 1); have := pow2_le hK; omega
            have E1 := Lib.hid e1
            have E4 := Lib.hid hs
            have hP2 : P1 ≤ 65536 := by omega
            have hB2 : B1 ≤ 65536 := by omega
            clear e1 e2 hB hand hi f1 f2 hs hl1 hl2 hp0 E1 hsl
            go_wp2_with fail
            go_roundw
            case rel => exact ⟨k + 1, P1 + B1, by omega, by go_num, by go_num, E4.out, HR1.out, HB1.out⟩
            case measure => simp [intOf]; omega
          · have hi1 : i % 2 = 1 := by omega
            have hb : (bits .and .i64 (P1 : Int) (B1 : Int) != 0) = true := by rw [hand, hi1, Nat.one_mul, bne_iff_ne]; exact Int.natCast_ne_zero.2 (by omega)
            obtain ⟨f1, f2⟩ := rev_odd (m := m) hi1
            have hP1 : P1 - B1 = revN m (i / 2) ∧ B1 ≤ P1 := by rw [e1, f1, hB]; omega
            have hP2 : P1 ≤ 65536 := by omega
            have hB2 : B1 ≤ 65536 := by omega
            have hle : B1 ≤ P1 := hP1.2
            have hB3 : 0 < B1 := by omega
            have E1 := Lib.hid hP1.1
            have E2 := Lib.hid hB
            have E4 := Lib.hid f2
            clear e1 e2 hB hand hi hi1 f1 f2 hP1 hl1 hl2 hp0
            go_wp2_with fail
            go_round
            case rel => exact ⟨m, i / 2, P1 - B1, B1 / 2, by go_num, by go_num, E1.out, by rw [E2.out], by rw [E3.out, E4.out], by omega⟩
            case measure => simp [intOf]; omega
    · obtain rfl : k = n := by omega
      go_wp2_with fail
      go_ret
      exact ⟨rfl, by rw [tabF_congr (g := scatF xs K k) fun p _ => (scat_last HS.out.len p).symm]; exact HR.out, HB.out⟩

theorem pow_step (r : F) (k p : Nat) : (if p = k then r ^ k else if p < k then r ^ p else 0) = if p < k + 1 then r ^ p else 0 := by
  by_cases e : p = k
  · subst e
    rw [if_pos rfl, if_pos (Nat.lt_succ_self _)]
  · rw [if_neg e]
    by_cases h : p < k
    · rw [if_pos h, if_pos (by omega)]
    · rw [if_neg h, if_neg (by omega)]
set_option maxHeartbeats 1000000 in
theorem rootPowers_any (j h : Nat) (w : World) (hh : h = 2 ^ j) (hj : j ≤ 15) :
    Calls Try.prog 42 #[.int .i64 ((j : Int) + 1)] w fun e w' => e = .returned (.slice (some ⟨w.heap.size, 0, none⟩) h h) ∧ RowF w' w.heap.size (tabF h fun i : Nat => rootF (j + 1) ^ i) ∧ Below w.heap.size w w' := by
  have hh2 : h ≤ 65536 := by rw [hh]; exact pow2_le (by omega)
  have hw : wrap64 (2 ^ j) = (h : Int) := by rw [hh]; exact wrap_pow2 (by omega)
  have hmk := run_makeF h (by omega)
  have hr0 := field_rootF (j + 1) w (by omega)
  rw [show ((j + 1 : Nat) : Int) = (j : Int) + 1 by omega] at hr0
  generalize rootF (j + 1) = r at *
  have HR0 := Lib.hid hr0
  clear hh hr0
  go_enter Try.func42, Try.ntmps42
  go_wp2_with (go_at_call 48; refine HR0.out.mono ?_; rintro e w' ⟨rfl, rfl⟩)
  clear hmk hw HR0
  go_loopw [6, 19] (fun p i wr => ∃ k : Nat, k ≤ h ∧ i = .int .i64 k ∧ p = .int .u64 (vF (r ^ k)) ∧ RowF wr w'.heap.size (tabF h fun q : Nat => if q < k then r ^ q else 0) ∧ Below w'.heap.size w' wr) (fun _ i _ => h - (intOf i).toNat)
  case atStart => exact ⟨0, Nat.zero_le _, rfl, by rw [F_pow_zero]; rfl, by rw [tabF_congr (g := fun _ => 0) fun p _ => if_neg (Nat.not_lt_zero _)]; exact rowF_made w' _, (Below.refl _ _).alloc (Nat.le_refl _) _⟩
  case round =>
    obtain ⟨k, hk, rfl, rfl, hr, hb⟩ := hrel
    have HR := Lib.hid hr
    have HB := Lib.hid hb
    clear hr hb
    by_cases hlt : k < h
    · obtain ⟨y, hy⟩ : ∃ y, (tabF h fun q : Nat => if q < k then r ^ q else 0)[k]? = some y := ⟨_, tabF_get _ hlt⟩
      have h2 := HR.out.at_ hy
      have h3 := HR.out.free k
      clear hy
      go_wp2_with (go_at_call 37; refine (mulF (r ^ k) r _).mono ?_; rintro e w1 ⟨rfl, rfl⟩)
      have HR1 := Lib.hid (by have := HR.out.set k (r ^ k); rw [tabF_set, tabF_congr (g := fun q : Nat => if q < k + 1 then r ^ q else 0) fun p _ => pow_step r k p] at this; exact this : RowF (wr.setCell ⟨w'.heap.size, k, none⟩ (.int .u64 (vF (r ^ k)))) w'.heap.size (tabF h fun q : Nat => if q < k + 1 then r ^ q else 0))
      go_roundw
      case rel => exact ⟨k + 1, by omega, by go_num, by rw [F_pow_succ], HR1.out, HB.out.setCell (p := ⟨w'.heap.size, k, none⟩) (Nat.le_refl _) _⟩
      case measure => simp [intOf]; omega
    · obtain rfl : k = h := by omega
      go_wp2_with fail
      go_ret
      exact ⟨rfl, by rw [tabF_congr (g := fun q : Nat => if q < k then r ^ q else 0) fun p hp => (if_pos hp).symm]; exact HR.out, HB.out⟩

/-- butterflies in the block at o, of twice h elements, after t of them -/
def bfF (f : Nat → F) (o h : Nat) (P : Nat → F) (t p : Nat) : F :=
  if o ≤ p ∧ p < o + t then f p + P (p - o) * f (p + h) else if o + h ≤ p ∧ p < o + h + t then f (p - h) - P (p - (o + h)) * f p else f p
theorem bf_zero (f : Nat → F) (o h : Nat) (P : Nat → F) (p : Nat) : bfF f o h P 0 p = f p := by
  unfold bfF
  rw [if_neg (by omega), if_neg (by omega)]
theorem bf_even {f : Nat → F} {o h t : Nat} {P : Nat → F} (ht : t < h) : bfF f o h P t (o + t) = f (o + t) := by
  unfold bfF
  rw [if_neg (by omega), if_neg (by omega)]
theorem bf_odd {f : Nat → F} {o h t : Nat} {P : Nat → F} (ht : t < h) : bfF f o h P t (o + h + t) = f (o + h + t) := by
  unfold bfF
  rw [if_neg (by omega), if_neg (by omega)]
theorem bf_step {f : Nat → F} {o h t N : Nat} {P : Nat → F} (ht : t < h) :
    ((tabF N (bfF f o h P t)).set (o + t) (f (o + t) + P t * f (o + h + t))).set (o + h + t) (f (o + t) - P t * f (o + h + t)) = tabF N (bfF f o h P (t + 1)) := by
  rw [tabF_set, tabF_set]
  refine tabF_congr fun p _ => ?_
  by_cases e1 : p = o + h + t
  · rw [if_pos e1]
    unfold bfF
    rw [if_neg (by omega), if_pos (by omega), e1, show o + h + t - h = o + t by omega, show o + h + t - (o + h) = t by omega]
  · rw [if_neg e1]
    by_cases e2 : p = o + t
    · rw [if_pos e2]
      unfold bfF
      rw [if_pos (by omega), e2, show o + t - o = t by omega, show o + t + h = o + h + t by omega]
    · rw [if_neg e2]
      unfold bfF
      by_cases c1 : o ≤ p ∧ p < o + t
      · rw [if_pos c1, if_pos (by omega)]
      · rw [if_neg c1, if_neg (show ¬ (o ≤ p ∧ p < o + (t + 1)) by omega)]
        by_cases c2 : o + h ≤ p ∧ p < o + h + t
        · rw [if_pos c2, if_pos (show o + h ≤ p ∧ p < o + h + (t + 1) by omega)]
        · rw [if_neg c2, if_neg (show ¬ (o + h ≤ p ∧ p < o + h + (t + 1)) by omega)]

theorem grown_below {w w' : World} {row : Option Nat} (h : Below w.heap.size w w') : w.grownBy w' row := ⟨h.os, h.tape, h.output, h.size, fun k hk _ => h.block k hk⟩
theorem grown_trans {a b c : World} {row : Option Nat} (h : a.grownBy b row) (k : b.grownBy c row) : a.grownBy c row :=
  ⟨k.os.trans h.os, k.tape.trans h.tape, k.output.trans h.output, Nat.le_trans h.size k.size, fun i hi hn => (k.block i (Nat.lt_of_lt_of_le hi h.size) hn).trans (h.block i hi hn)⟩
theorem grown_set (w : World) (g i : Nat) (v : Value) : w.grownBy (w.setCell ⟨g, i, none⟩ v) (some g) :=
  ⟨rfl, rfl, rfl, by simp [World.setCell], fun k _ hn => Below.heap_setCell _ _ _ _ (fun e => hn (by rw [e]))⟩
theorem mulFb (a b : F) (w : World) : Calls Try.prog 37 #[.int .u64 (vF a), .int .u64 (vF b)] w fun e w' => e = .returned (.int .u64 (vF (a * b))) ∧ Below w.heap.size w w' :=
  (mulF a b w).mono fun _ _ ⟨h, k⟩ => ⟨h, k ▸ Below.refl _ _⟩
set_option maxHeartbeats 1000000 in
theorem butterflies_any (g o h gp N : Nat) (f P : Nat → F) (w : World) (hr : RowF w g (tabF N f)) (hp : RowF w gp (tabF h P)) (hg : g ≠ gp) (h1 : 1 ≤ h) (ho : o + (h + h) ≤ N) (hN : N ≤ 65536) :
    Calls Try.prog 43 #[.slice (some ⟨g, o, none⟩) (h + h) (h + h), .slice (some ⟨gp, 0, none⟩) h h] w fun e w' => (∃ v, e = .returned v) ∧ RowF w' g (tabF N (bfF f o h P h)) ∧ w.grownBy w' (some g) := by
  have HR0 := Lib.hid hr
  have HP := Lib.hid hp
  have HG := Lib.hid hg
  clear hr hp hg
  go_enter Try.func43, Try.ntmps43
  go_wp2_with fail
  refine wp_later_lex (by kernel_rfl) (lexOK_of (by kernel_rfl) (by kernel_rfl)) ?_
  repeat (go_big_quiet_step (fail))
  refine wpQuiet_nil ?_
  intro X
  have HB0 := Lib.hid X.below
  generalize X.at = W at *
  have HR := Lib.hid (HR0.out.keep HB0.out)
  have HQ := Lib.hid (HP.out.keep HB0.out)
  have HK0 := Lib.hid (grown_below (row := some g) HB0.out)
  go_wp2_with fail
  go_loopw [26] (fun i wr => ∃ t : Nat, t ≤ h ∧ i = .int .i64 t ∧ RowF wr g (tabF N (bfF f o h P t)) ∧ w.grownBy wr (some g)) (fun i _ => h - (intOf i).toNat)
  case atStart => exact ⟨0, Nat.zero_le _, rfl, by rw [tabF_congr (g := f) fun p _ => bf_zero f o h P p]; exact HR.out, HK0.out⟩
  case round =>
    obtain ⟨t, ht, rfl, hr, hg⟩ := hrel
    have HR1 := Lib.hid hr
    have HK := Lib.hid hg
    clear hr hg HR
    by_cases hlt : t < h
    · have hpw : RowF wr gp (tabF h P) := HP.out.same (HK.out.block gp HP.out.lt (fun e => HG.out (by injection e with e; exact e.symm)))
      have hc := hpw.at_ (tabF_get P hlt)
      have hx := HR1.out.at_ (tabF_get (i := o + t) (bfF f o h P t) (by omega))
      have hy := HR1.out.at_ (tabF_get (i := o + h + t) (bfF f o h P t) (by omega))
      rw [bf_even hlt] at hx
      rw [bf_odd hlt] at hy
      have fx := HR1.out.free (o + t)
      have fy := HR1.out.free (o + h + t)
      clear hpw
      generalize hxe : f (o + t) = x at *
      generalize hye : f (o + h + t) = y at *
      generalize hce : P t = z at *
      have EX := Lib.hid hxe
      have EY := Lib.hid hye
      have EZ := Lib.hid hce
      clear hxe hye hce
      go_wp2_with fail
      have lx := Later.cell hx
      have ly := Later.cell hy
      have i1 : t < 2 * h - h := by omega
      have i2 : (t : Int) < ((2 * h - h : Nat) : Int) := by omega
      clear hx hy hc
      refine wp_later_lex (by kernel_rfl) (lexOK_of (by kernel_rfl) (by kernel_rfl)) ?_
      repeat (go_big_quiet_step ((go_at_call 37; with_reducible exact Calls.later (mulFb z y _))))
      refine wpQuiet_nil ?_
      intro X1
      have HB1 := Lib.hid X1.below
      have HR2 := Lib.hid (HR1.out.keep HB1.out)
      have fx1 := HR2.out.free (o + t)
      have fy1 := HR2.out.free (o + h + t)
      have cx := HR2.out.at_ (tabF_get (i := o + t) (bfF f o h P t) (by omega))
      have cy := HR2.out.at_ (tabF_get (i := o + h + t) (bfF f o h P t) (by omega))
      clear lx ly fx fy
      go_wp2_with (first | (go_at_call 49; refine (addF x (z * y) _).mono ?_; rintro e w1 ⟨rfl, rfl⟩) | (go_at_call 50; refine (subF x (z * y) _).mono ?_; rintro e w1 ⟨rfl, rfl⟩))
      have HR3 := Lib.hid (show RowF _ g (tabF N (bfF f o h P (t + 1))) by
        have h3 := (HR2.out.set (o + t) (x + z * y)).set (o + h + t) (x - z * y)
        have e := bf_step (f := f) (P := P) (N := N) (o := o) hlt
        rw [EX.out, EY.out, EZ.out] at e
        rw [e] at h3
        exact h3)
      go_roundw
      case rel => exact ⟨t + 1, by omega, by go_num, HR3.out, grown_trans (grown_trans (grown_trans HK.out (grown_below HB1.out)) (grown_set _ _ _ _)) (grown_set _ _ _ _)⟩
      case measure => simp [intOf]; omega
    · obtain rfl : t = h := by omega
      go_wp2_with fail
      go_end0
      exact ⟨⟨_, rfl⟩, HR1.out, HK.out⟩

end Go.Proofs.Ytihneehceclffaa
