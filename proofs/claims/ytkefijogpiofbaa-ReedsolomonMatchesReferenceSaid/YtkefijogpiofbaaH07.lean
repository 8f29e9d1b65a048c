/- Several texts in one: JNpa, JNtr, JNpb, JPolE, Sa, Sb, Sc, Sd, Se. -/
import Derived.Deep.QuietTactic
import Derived.BigQuiet
import Derived.Test.YtkefijogpiofbaaH06
import Derived.RangeFuncNested
import Derived.RangeFuncBound
import Derived.RangeFuncCalls
import Derived.RangeFuncLeaves
import Derived.RangeFuncBox
import Derived.Shelf.Abstract
import Derived.Shelf.RegionOpen
import Derived.OwnWalkIn
import Derived.TacticsInMore
import Derived.LoopNIn
import Derived.LoopIn
import Derived.Laws.EntriesVeiled
import Derived.Sort.QuietIn
import Derived.Test.YtkefijogpiofbaaH05
import Derived.Test.YtkefijogpiofbaaH04
namespace Go.Proofs.Ytkefijogpiofbaa.J
set_option linter.unusedVariables false
set_option linter.unusedSimpArgs false
set_option linter.unusedSectionVars false
set_option maxRecDepth 8000
open Go.RowKit Gold

theorem revN_zero : ∀ K, revN K 0 = 0
  | 0 => rfl
  | K + 1 => by show revN K (0 / 2) + 0 % 2 * 2 ^ K = 0; rw [Nat.zero_div, revN_zero K]; omega
/-- what lies at p when the first k elements have been put at their places -/
def scatF (xs : List F) (K k p : Nat) : F := if revN K p < k then cfF xs (revN K p) else 0
theorem scat_zero (xs : List F) (K p : Nat) : scatF xs K 0 p = 0 := if_neg (Nat.not_lt_zero _)
theorem scat_step {xs : List F} {K N k : Nat} {x : F} (hN : N = 2 ^ K) (hk : k < N) (hx : xs[k]? = some x) : (tabF N (scatF xs K k)).set (revN K k) x = tabF N (scatF xs K (k + 1)) := by
  rw [tabF_set]
  refine tabF_congr fun p hp => ?_
  by_cases e : p = revN K k
  · rw [if_pos e, e]
    unfold scatF
    rw [revN_rev K k (by omega), if_pos (by omega), cfF_some hx]
  · rw [if_neg e]
    have h : revN K p ≠ k := fun h => e (by rw [← h, revN_rev K p (by omega)])
    unfold scatF
    by_cases h1 : revN K p < k
    · rw [if_pos h1, if_pos (by omega)]
    · rw [if_neg h1, if_neg (by omega)]
theorem scat_last {xs : List F} {K n : Nat} (hn : n = xs.length) (p : Nat) : scatF xs K n p = stF (cfF xs) K 0 p := by
  rw [stF_first]
  unfold scatF
  split
  · rfl
  · rw [cfF_none (by omega)]
/-- adding one from the highest bit downward, under way -/
def ScatI (K k : Nat) (p b : Value) : Prop := ∃ m i P B : Nat, p = .int .i64 (P : Int) ∧ b = .int .i64 (B : Int) ∧ P = revN m i ∧ B = 2 ^ m / 2 ∧ revN K (k + 1) = revN m (i + 1) ∧ m ≤ K

set_option maxHeartbeats 1000000 in
theorem scatter_any (A : Option Addr) (n c : Nat) (xs : List F) (N K : Nat) (w : World) (h : Sf w A n c xs) (hN : N = 2 ^ K) (hK : K ≤ 16) (hn : n ≤ N) :
    Calls Try.prog 78 #[.slice A n c, .int .i64 (N : Int)] w fun e w' => e = .returned (.slice (some ⟨w.heap.size, 0, none⟩) N N) ∧ RowF w' w.heap.size (tabF N (stF (cfF xs) K 0)) ∧ Below w.heap.size w w' := by
  have hN1 : 1 ≤ N := by rw [hN]; exact Nat.two_pow_pos K
  have hN2 : N ≤ 65536 := by rw [hN]; exact pow2_le hK
  have hcap := h.cap
  have htop := h.top
  have HN := Lib.hid hN
  have HS := Lib.hid h
  clear hN h
  have hmk := run_makeF N (by omega)
  go_enter Try.func78, Try.ntmps78
  go_wp2_with fail
  clear hmk
  go_loopw [6, 14] (fun p i wr => ∃ k P : Nat, k ≤ n ∧ i = .int .i64 k ∧ p = .int .i64 P ∧ P = revN K k ∧ RowF wr w.heap.size (tabF N (scatF xs K k)) ∧ Below w.heap.size w wr) (fun _ i _ => n - (intOf i).toNat)
  case atStart => exact ⟨0, 0, Nat.zero_le _, rfl, rfl, (revN_zero K).symm, by rw [tabF_congr (g := fun _ => 0) fun p _ => scat_zero xs K p]; exact rowF_made w _, (Below.refl _ _).alloc (Nat.le_refl _) _⟩
  case round =>
    obtain ⟨k, P, hk, rfl, rfl, hP, hr, hb⟩ := hrel
    have HP := Lib.hid hP
    have HR := Lib.hid hr
    have HB := Lib.hid hb
    clear hP hr hb
    by_cases hlt : k < n
    · obtain ⟨x, hx⟩ := HS.out.get hlt
      obtain ⟨ad, rfl, h0⟩ := HS.out.at_ hx
      have h1 := cell_keep h0 HB.out
      have hPN : P < N := by rw [HP.out, HN.out]; exact revN_lt _ _
      obtain ⟨y, hy⟩ : ∃ y, (tabF N (scatF xs K k))[P]? = some y := ⟨_, tabF_get _ hPN⟩
      have h2 := HR.out.at_ hy
      have h3 := HR.out.free P
      have HX := Lib.hid hx
      clear hx h0 hy
      go_wp2_with fail
      have HR1 := Lib.hid (by have := HR.out.set P x; rw [HP.out, scat_step HN.out (by omega) HX.out, ← HP.out] at this; exact this : RowF (wr.setCell ⟨w.heap.size, P, none⟩ (.int .u64 (vF x))) w.heap.size (tabF N (scatF xs K (k + 1))))
      have HB1 := Lib.hid (HB.out.setCell (p := ⟨w.heap.size, P, none⟩) (Nat.le_refl _) (.int .u64 (vF x)))
      clear h1 h2 h3 HR
      go_loop [6, 9] (fun p b => ScatI K k p b) (fun _ b => (intOf b).toNat)
      case atStart => exact ⟨K, k, P, N / 2, rfl, by go_num, HP.out, by rw [HN.out], rfl, Nat.le_refl _⟩
      case round =>
        obtain ⟨m, i, P1, B1, rfl, rfl, e1, e2, e3, hm⟩ := hrel
        have E3 := Lib.hid e3
        clear e3
        cases m with
        | zero =>
          obtain rfl : P1 = 0 := e1
          obtain rfl : B1 = 0 := e2
          have hb : (bits .and .i64 ((0 : Nat) : Int) ((0 : Nat) : Int) != 0) = false := by rw [bits_and_i64_nat _ _ (by omega) (by omega)]; rfl
          go_wp2_with fail
          go_roundw
          case rel => exact ⟨k + 1, 0, by omega, by go_num, rfl, E3.out.symm, HR1.out, HB1.out⟩
          case measure => simp [intOf]; omega
        | succ m =>
          have hl1 : revN (m + 1) i < 65536 + 1 := by have := revN_lt (m + 1) i; have := pow2_le (k := m + 1) (by omega); omega
          have hl2 : 2 ^ m ≤ 65536 := pow2_le (by omega)
          have hp0 := Nat.two_pow_pos m
          have hB : B1 = 2 ^ m := by rw [e2, pow2_succ]; omega
          have hand : bits .and .i64 (P1 : Int) (B1 : Int) = ((i % 2 * 2 ^ m : Nat) : Int) := by rw [bits_and_i64_nat _ _ (by omega) (by omega), e1, hB, rev_and]
          by_cases hi : i % 2 = 0
          · have hb : (bits .and .i64 (P1 : Int) (B1 : Int) != 0) = false := by rw [hand, hi]; simp
            obtain ⟨f1, f2⟩ := rev_even (m := m) hi
            have hs : P1 + B1 = revN K (k + 1) := by rw [E3.out, f2, e1, hB]
            have hsl : revN K (k + 1) ≤ 65536 := by have := revN_lt K (k + 1); have := pow2_le hK; omega
            have E1 := Lib.hid e1
            have E4 := Lib.hid hs
            have hP2 : P1 ≤ 65536 := by omega
            have hB2 : B1 ≤ 65536 := by omega
            clear e1 e2 hB hand hi f1 f2 hs hl1 hl2 hp0 E1 hsl
            go_wp2_with fail
            go_roundw
            case rel => exact ⟨k + 1, P1 + B1, by omega, by go_num, by go_num, E4.out, HR1.out, HB1.out⟩
            case measure => simp [intOf]; omega
          · have hi1 : i % 2 = 1 := by omega
            have hb : (bits .and .i64 (P1 : Int) (B1 : Int) != 0) = true := by rw [hand, hi1, Nat.one_mul, bne_iff_ne]; exact Int.natCast_ne_zero.2 (by omega)
            obtain ⟨f1, f2⟩ := rev_odd (m := m) hi1
            have hP1 : P1 - B1 = revN m (i / 2) ∧ B1 ≤ P1 := by rw [e1, f1, hB]; omega
            have hP2 : P1 ≤ 65536 := by omega
            have hB2 : B1 ≤ 65536 := by omega
            have hle : B1 ≤ P1 := hP1.2
            have hB3 : 0 < B1 := by omega
            have E1 := Lib.hid hP1.1
            have E2 := Lib.hid hB
            have E4 := Lib.hid f2
            clear e1 e2 hB hand hi hi1 f1 f2 hP1 hl1 hl2 hp0
            go_wp2_with fail
            go_round
            case rel => exact ⟨m, i / 2, P1 - B1, B1 / 2, by go_num, by go_num, E1.out, by rw [E2.out], by rw [E3.out, E4.out], by omega⟩
            case measure => simp [intOf]; omega
    · obtain rfl : k = n := by omega
      go_wp2_with fail
      go_ret
      exact ⟨rfl, by rw [tabF_congr (g := scatF xs K k) fun p _ => (scat_last HS.out.len p).symm]; exact HR.out, HB.out⟩

theorem pow_step (r : F) (k p : Nat) : (if p = k then r ^ k else if p < k then r ^ p else 0) = if p < k + 1 then r ^ p else 0 := by
  by_cases e : p = k
  · subst e
    rw [if_pos rfl, if_pos (Nat.lt_succ_self _)]
  · rw [if_neg e]
    by_cases h : p < k
    · rw [if_pos h, if_pos (by omega)]
    · rw [if_neg h, if_neg (by omega)]
set_option maxHeartbeats 1000000 in
theorem rootPowers_any (j h : Nat) (w : World) (hh : h = 2 ^ j) (hj : j ≤ 15) :
    Calls Try.prog 80 #[.int .i64 ((j : Int) + 1)] w fun e w' => e = .returned (.slice (some ⟨w.heap.size, 0, none⟩) h h) ∧ RowF w' w.heap.size (tabF h fun i : Nat => rootF (j + 1) ^ i) ∧ Below w.heap.size w w' := by
  have hh2 : h ≤ 65536 := by rw [hh]; exact pow2_le (by omega)
  have hw : wrap64 (2 ^ j) = (h : Int) := by rw [hh]; exact wrap_pow2 (by omega)
  have hmk := run_makeF h (by omega)
  have hr0 := field_rootF (j + 1) w (by omega)
  rw [show ((j + 1 : Nat) : Int) = (j : Int) + 1 by omega] at hr0
  generalize rootF (j + 1) = r at *
  have HR0 := Lib.hid hr0
  clear hh hr0
  go_enter Try.func80, Try.ntmps80
  go_wp2_with (go_at_call 67; refine HR0.out.mono ?_; rintro e w' ⟨rfl, rfl⟩)
  clear hmk hw HR0
  go_loopw [6, 19] (fun p i wr => ∃ k : Nat, k ≤ h ∧ i = .int .i64 k ∧ p = .int .u64 (vF (r ^ k)) ∧ RowF wr w'.heap.size (tabF h fun q : Nat => if q < k then r ^ q else 0) ∧ Below w'.heap.size w' wr) (fun _ i _ => h - (intOf i).toNat)
  case atStart => exact ⟨0, Nat.zero_le _, rfl, by rw [F_pow_zero]; rfl, by rw [tabF_congr (g := fun _ => 0) fun p _ => if_neg (Nat.not_lt_zero _)]; exact rowF_made w' _, (Below.refl _ _).alloc (Nat.le_refl _) _⟩
  case round =>
    obtain ⟨k, hk, rfl, rfl, hr, hb⟩ := hrel
    have HR := Lib.hid hr
    have HB := Lib.hid hb
    clear hr hb
    by_cases hlt : k < h
    · obtain ⟨y, hy⟩ : ∃ y, (tabF h fun q : Nat => if q < k then r ^ q else 0)[k]? = some y := ⟨_, tabF_get _ hlt⟩
      have h2 := HR.out.at_ hy
      have h3 := HR.out.free k
      clear hy
      go_wp2_with (go_at_call 86; refine (mulF (r ^ k) r _).mono ?_; rintro e w1 ⟨rfl, rfl⟩)
      have HR1 := Lib.hid (by have := HR.out.set k (r ^ k); rw [tabF_set, tabF_congr (g := fun q : Nat => if q < k + 1 then r ^ q else 0) fun p _ => pow_step r k p] at this; exact this : RowF (wr.setCell ⟨w'.heap.size, k, none⟩ (.int .u64 (vF (r ^ k)))) w'.heap.size (tabF h fun q : Nat => if q < k + 1 then r ^ q else 0))
      go_roundw
      case rel => exact ⟨k + 1, by omega, by go_num, by rw [F_pow_succ], HR1.out, HB.out.setCell (p := ⟨w'.heap.size, k, none⟩) (Nat.le_refl _) _⟩
      case measure => simp [intOf]; omega
    · obtain rfl : k = h := by omega
      go_wp2_with fail
      go_ret
      exact ⟨rfl, by rw [tabF_congr (g := fun q : Nat => if q < k then r ^ q else 0) fun p hp => (if_pos hp).symm]; exact HR.out, HB.out⟩

/-- butterflies in the block at o, of twice h elements, after t of them -/
def bfF (f : Nat → F) (o h : Nat) (P : Nat → F) (t p : Nat) : F :=
  if o ≤ p ∧ p < o + t then f p + P (p - o) * f (p + h) else if o + h ≤ p ∧ p < o + h + t then f (p - h) - P (p - (o + h)) * f p else f p
theorem bf_zero (f : Nat → F) (o h : Nat) (P : Nat → F) (p : Nat) : bfF f o h P 0 p = f p := by
  unfold bfF
  rw [if_neg (by omega), if_neg (by omega)]
theorem bf_even {f : Nat → F} {o h t : Nat} {P : Nat → F} (ht : t < h) : bfF f o h P t (o + t) = f (o + t) := by
  unfold bfF
  rw [if_neg (by omega), if_neg (by omega)]
theorem bf_odd {f : Nat → F} {o h t : Nat} {P : Nat → F} (ht : t < h) : bfF f o h P t (o + h + t) = f (o + h + t) := by
  unfold bfF
  rw [if_neg (by omega), if_neg (by omega)]
theorem bf_step {f : Nat → F} {o h t N : Nat} {P : Nat → F} (ht : t < h) :
    ((tabF N (bfF f o h P t)).set (o + t) (f (o + t) + P t * f (o + h + t))).set (o + h + t) (f (o + t) - P t * f (o + h + t)) = tabF N (bfF f o h P (t + 1)) := by
  rw [tabF_set, tabF_set]
  refine tabF_congr fun p _ => ?_
  by_cases e1 : p = o + h + t
  · rw [if_pos e1]
    unfold bfF
    rw [if_neg (by omega), if_pos (by omega), e1, show o + h + t - h = o + t by omega, show o + h + t - (o + h) = t by omega]
  · rw [if_neg e1]
    by_cases e2 : p = o + t
    · rw [if_pos e2]
      unfold bfF
      rw [if_pos (by omega), e2, show o + t - o = t by omega, show o + t + h = o + h + t by omega]
    · rw [if_neg e2]
      unfold bfF
      by_cases c1 : o ≤ p ∧ p < o + t
      · rw [if_pos c1, if_pos (by omega)]
      · rw [if_neg c1, if_neg (show ¬ (o ≤ p ∧ p < o + (t + 1)) by omega)]
        by_cases c2 : o + h ≤ p ∧ p < o + h + t
        · rw [if_pos c2, if_pos (show o + h ≤ p ∧ p < o + h + (t + 1) by omega)]
        · rw [if_neg c2, if_neg (show ¬ (o + h ≤ p ∧ p < o + h + (t + 1)) by omega)]

theorem grown_below {w w' : World} {row : Option Nat} (h : Below w.heap.size w w') : w.grownBy w' row := ⟨h.os, h.tape, h.output, h.size, fun k hk _ => h.block k hk⟩
theorem grown_trans {a b c : World} {row : Option Nat} (h : a.grownBy b row) (k : b.grownBy c row) : a.grownBy c row :=
  ⟨k.os.trans h.os, k.tape.trans h.tape, k.output.trans h.output, Nat.le_trans h.size k.size, fun i hi hn => (k.block i (Nat.lt_of_lt_of_le hi h.size) hn).trans (h.block i hi hn)⟩
theorem grown_set (w : World) (g i : Nat) (v : Value) : w.grownBy (w.setCell ⟨g, i, none⟩ v) (some g) :=
  ⟨rfl, rfl, rfl, by simp [World.setCell], fun k _ hn => Below.heap_setCell _ _ _ _ (fun e => hn (by rw [e]))⟩
theorem mulFb (a b : F) (w : World) : Calls Try.prog 86 #[.int .u64 (vF a), .int .u64 (vF b)] w fun e w' => e = .returned (.int .u64 (vF (a * b))) ∧ Below w.heap.size w w' :=
  (mulF a b w).mono fun _ _ ⟨h, k⟩ => ⟨h, k ▸ Below.refl _ _⟩
set_option maxHeartbeats 1000000 in
theorem butterflies_any (g o h gp N : Nat) (f P : Nat → F) (w : World) (hr : RowF w g (tabF N f)) (hp : RowF w gp (tabF h P)) (hg : g ≠ gp) (h1 : 1 ≤ h) (ho : o + (h + h) ≤ N) (hN : N ≤ 65536) :
    Calls Try.prog 81 #[.slice (some ⟨g, o, none⟩) (h + h) (h + h), .slice (some ⟨gp, 0, none⟩) h h] w fun e w' => (∃ v, e = .returned v) ∧ RowF w' g (tabF N (bfF f o h P h)) ∧ w.grownBy w' (some g) := by
  have HR0 := Lib.hid hr
  have HP := Lib.hid hp
  have HG := Lib.hid hg
  clear hr hp hg
  go_enter Try.func81, Try.ntmps81
  go_wp2_with fail
  refine wp_later_lex (by kernel_rfl) (lexOK_of (by kernel_rfl) (by kernel_rfl)) ?_
  repeat (go_big_quiet_step (fail))
  refine wpQuiet_nil ?_
  intro X
  have HB0 := Lib.hid X.below
  generalize X.at = W at *
  have HR := Lib.hid (HR0.out.keep HB0.out)
  have HQ := Lib.hid (HP.out.keep HB0.out)
  have HK0 := Lib.hid (grown_below (row := some g) HB0.out)
  go_wp2_with fail
  go_loopw [26] (fun i wr => ∃ t : Nat, t ≤ h ∧ i = .int .i64 t ∧ RowF wr g (tabF N (bfF f o h P t)) ∧ w.grownBy wr (some g)) (fun i _ => h - (intOf i).toNat)
  case atStart => exact ⟨0, Nat.zero_le _, rfl, by rw [tabF_congr (g := f) fun p _ => bf_zero f o h P p]; exact HR.out, HK0.out⟩
  case round =>
    obtain ⟨t, ht, rfl, hr, hg⟩ := hrel
    have HR1 := Lib.hid hr
    have HK := Lib.hid hg
    clear hr hg HR
    by_cases hlt : t < h
    · have hpw : RowF wr gp (tabF h P) := HP.out.same (HK.out.block gp HP.out.lt (fun e => HG.out (by injection e with e; exact e.symm)))
      have hc := hpw.at_ (tabF_get P hlt)
      have hx := HR1.out.at_ (tabF_get (i := o + t) (bfF f o h P t) (by omega))
      have hy := HR1.out.at_ (tabF_get (i := o + h + t) (bfF f o h P t) (by omega))
      rw [bf_even hlt] at hx
      rw [bf_odd hlt] at hy
      have fx := HR1.out.free (o + t)
      have fy := HR1.out.free (o + h + t)
      clear hpw
      generalize hxe : f (o + t) = x at *
      generalize hye : f (o + h + t) = y at *
      generalize hce : P t = z at *
      have EX := Lib.hid hxe
      have EY := Lib.hid hye
      have EZ := Lib.hid hce
      clear hxe hye hce
      go_wp2_with fail
      have lx := Later.cell hx
      have ly := Later.cell hy
      have i1 : t < 2 * h - h := by omega
      have i2 : (t : Int) < ((2 * h - h : Nat) : Int) := by omega
      clear hx hy hc
      refine wp_later_lex (by kernel_rfl) (lexOK_of (by kernel_rfl) (by kernel_rfl)) ?_
      repeat (go_big_quiet_step ((go_at_call 86; with_reducible exact Calls.later (mulFb z y _))))
      refine wpQuiet_nil ?_
      intro X1
      have HB1 := Lib.hid X1.below
      have HR2 := Lib.hid (HR1.out.keep HB1.out)
      have fx1 := HR2.out.free (o + t)
      have fy1 := HR2.out.free (o + h + t)
      have cx := HR2.out.at_ (tabF_get (i := o + t) (bfF f o h P t) (by omega))
      have cy := HR2.out.at_ (tabF_get (i := o + h + t) (bfF f o h P t) (by omega))
      clear lx ly fx fy
      go_wp2_with (first | (go_at_call 83; refine (addF x (z * y) _).mono ?_; rintro e w1 ⟨rfl, rfl⟩) | (go_at_call 92; refine (subF x (z * y) _).mono ?_; rintro e w1 ⟨rfl, rfl⟩))
      have HR3 := Lib.hid (show RowF _ g (tabF N (bfF f o h P (t + 1))) by
        have h3 := (HR2.out.set (o + t) (x + z * y)).set (o + h + t) (x - z * y)
        have e := bf_step (f := f) (P := P) (N := N) (o := o) hlt
        rw [EX.out, EY.out, EZ.out] at e
        rw [e] at h3
        exact h3)
      go_roundw
      case rel => exact ⟨t + 1, by omega, by go_num, HR3.out, grown_trans (grown_trans (grown_trans HK.out (grown_below HB1.out)) (grown_set _ _ _ _)) (grown_set _ _ _ _)⟩
      case measure => simp [intOf]; omega
    · obtain rfl : t = h := by omega
      go_wp2_with fail
      go_end0
      exact ⟨⟨_, rfl⟩, HR1.out, HK.out⟩

end Go.Proofs.Ytkefijogpiofbaa.J

namespace Go.Proofs.Ytkefijogpiofbaa.J
set_option linter.unusedVariables false
set_option linter.unusedSimpArgs false
set_option linter.unusedSectionVars false
set_option maxRecDepth 8000
open Go.RowKit Gold
open Go.Shelf
attribute [local go_sem] Oper.semAt_some

def KeepsC (B : Nat) (W W' : World) : Prop := ∀ v, W.cell? ⟨B, 0, none⟩ = some v → W'.cell? ⟨B, 0, none⟩ = some v
theorem keepsC_t {B : Nat} {X Y Z : World} (h : KeepsC B X Y) (k : KeepsC B Y Z) : KeepsC B X Z := fun v e => k v (h v e)
theorem keepsC_b {B : Nat} {w : World} (W : World) (l : Nat) (o o' : Obj) (_ : w.heap.size ≤ l) (h : W.heap[l]? = some o) (hc : o.isCells = false) (_ : o.isWalk = false) : KeepsC B W (W.putObj l o') :=
  fun _ e => cell_kept e (grownBy_putObj' W l o') (fun r k => by cases k; exact ⟨o, h, hc⟩)
theorem grown_drew (w : World) (n : Nat) (row : Option Nat) : w.grownBy (w.drewN n) row := ⟨rfl, rfl, rfl, Nat.le_refl _, fun _ _ _ => rfl⟩

set_option maxHeartbeats 400000 in
theorem lengths_any (n : Int) (w : World) : Calls Try.prog 79 #[.int .i64 n] w fun e w' => e = .returned (.func (.func 91) #[] #[.pointer (some ⟨w.heap.size, 0, none⟩)]) ∧ w' = w.alloc (.cells #[.int .i64 n] 3) := by
  go_enter Try.func79, Try.ntmps79
  go_wp2
  go_ret
  exact ⟨rfl, rfl⟩

def pwN (k : Nat) : Nat := 2 ^ k
theorem pwN_succ (k : Nat) : pwN (k + 1) = 2 ^ k + 2 ^ k := pow2_succ k

set_option maxRecDepth 100000 in
set_option maxHeartbeats 2000000 in
theorem lengths_stops (B N K : Nat) (hN : N = 2 ^ K) (hK : K ≤ 16) (w : World) (hB : w.cell? ⟨B, 0, none⟩ = some (.int .i64 (N : Int))) :
    SeqStopsK Fence.wide 2 Try.prog 91 #[.pointer (some ⟨B, 0, none⟩)] (fun i : Fin K => #[.int .i64 ((i.val : Int) + 1), .int .i64 ((pwN (i.val + 1) : Nat) : Int)]) (KeepsC B) (fun xs => xs.map (·.val) = List.range K) (fun _ => True) 64 w := fun l J Jx W hW hJ _ hY h0 => by
  have hc := cell_keep hB hW
  have hN1 : 1 ≤ N := by rw [hN]; exact Nat.two_pow_pos K
  have hN2 : N ≤ 65536 := by rw [hN]; exact pow2_le hK
  refine callsIn_of_wp Try.func91 rfl trivial ?_ rfl
  simp only [Try.ntmps91, List.size_toArray, List.length_cons, List.length_nil, Nat.reduceAdd, Nat.reduceSub, Array.replicate_succ, Array.replicate_zero, List.push_toArray, List.append_toArray, List.nil_append, List.cons_append]
  gi_wp2
  have HC := Lib.hid hc
  have HJ := Lib.hid h0
  have HN := Lib.hid hN
  clear hN hc h0 hB hW
  gi_loopw [3] (fun s3 wr => ∃ (j : Nat) (pre : List (Fin K)), j ≤ K ∧ s3 = .int .i64 ((j : Int) + 1) ∧ pre.map (·.val) = List.range j ∧ J pre wr ∧ wr.cell? ⟨B, 0, none⟩ = some (.int .i64 (N : Int))) (fun s3 _ => (K + 1 - (intOf s3).toNat))
  case atStart => exact ⟨0, [], Nat.zero_le _, rfl, rfl, HJ.out, HC.out⟩
  case round =>
    clear HC HJ
    obtain ⟨j, pre, hj, rfl, hpre, hJ1, hc⟩ := hrel
    have HPre := Lib.hid hpre
    clear hpre
    have hwp : wrap64 (2 ^ (j + 1)) = ((pwN (j + 1) : Nat) : Int) := wrap_pow2 (by omega)
    have hp2 : pwN (j + 1) = 2 ^ j + 2 ^ j := pwN_succ j
    by_cases he : j = K
    · have hgt : decide (pwN (j + 1) ≤ N) = false := decide_eq_false (by rw [HN.out, hp2, he]; have := Nat.two_pow_pos K; omega)
      have HE := Lib.hid he
      have hJ2 := fun n => hJ _ _ _ none hJ1 (grown_drew wr n none) (fun r e => by cases e)
      have HJ2 := Lib.hid hJ2
      clear he hJ1 hJ2 hp2
      gi_wp2
      gi_quiet (fail)
      gi_wp2
      go_end0
      exact ⟨⟨_, rfl⟩, .inl ⟨_, HPre.out.trans (congrArg List.range HE.out), HJ2.out _⟩⟩
    · have hle : decide (pwN (j + 1) ≤ N) = true := decide_eq_true (by
        rw [HN.out, hp2, ← pow2_succ]
        exact Nat.pow_le_pow_right (by omega) (by omega))
      have hjk : j < K := by omega
      have hJ2 := fun n => hJ _ _ _ none hJ1 (grown_drew wr n none) (fun r e => by cases e)
      have HY := Lib.hid fun n => hY pre ⟨j, hjk⟩ (wr.drewN n) (hJ2 n) (by have := congrArg List.length HPre.out; simp at this; omega)
      have hj2 : (0 : Int) ≤ (j : Int) := by omega
      have hj3 : (j : Int) ≤ 16 := by omega
      clear he hJ1 hJ2 hY hJ hp2
      gi_wp2
      gi_quiet (fail)
      obtain ⟨fn, tmps, assign, body, hy0, hR⟩ := HY.out nq
      have hy : (Instr.yield l #[Value.int .i64 ((j : Int) + 1), Value.int .i64 ((pwN (j + 1) : Nat) : Int)]).run Try.prog (wr.drewN nq) = .ok (.round l fn tmps assign body) (wr.drewN nq) := hy0
      have HRR := Lib.hid hR
      have HC := Lib.hid hc
      clear hR HY hy0
      gi_wp2
      refine HRR.out.mono ?_
      rintro e W3 (⟨rfl, hJ3, hk3⟩ | ⟨rfl, hJx3⟩)
      · have hc3 := hk3 _ HC.out
        have HJ3 := Lib.hid hJ3
        have HPre2 := Lib.hid (show (pre ++ [(⟨j, hjk⟩ : Fin K)]).map (fun i : Fin K => i.val) = List.range (j + 1) by rw [List.map_append, List.range_succ]; exact congrArg (· ++ [j]) HPre.out)
        clear hJ3 hk3 hwp hle
        gi_wp2
        go_roundw
        case rel => exact ⟨j + 1, _, by omega, by go_num, HPre2.out, HJ3.out, hc3⟩
        case measure => simp [intOf]; omega
      · gi_wp2
        refine bodyPost_ret (results_none rfl _ _ _) rfl ?_
        exact ⟨⟨_, rfl⟩, .inr ⟨pre ++ [⟨j, hjk⟩], trivial, hJx3⟩⟩

def stepF (f : Nat → F) (i : Nat) : Nat → F := layF f (2 ^ i) fun t : Nat => rootF (i + 1) ^ t
def runF {K : Nat} (A : Nat → F) (pre : List (Fin K)) : Nat → F := (pre.map (·.val)).foldl stepF (stF A K 0)
theorem runF_snoc {K : Nat} (A : Nat → F) (pre : List (Fin K)) (i : Fin K) : runF A (pre ++ [i]) = stepF (runF A pre) i.val := by unfold runF; rw [List.map_append, List.foldl_append]; rfl
theorem runF_range {K : Nat} (A : Nat → F) (hK : K ≤ 32) : ∀ j, j ≤ K → (List.range j).foldl stepF (stF A K 0) = stF A K j
  | 0, _ => rfl
  | j + 1, h => by
    rw [List.range_succ, List.foldl_append, runF_range A hK j (by omega)]
    exact funext fun p => layF_stF A (by omega) hK
theorem runF_all {K : Nat} (A : Nat → F) (hK : K ≤ 32) {xs : List (Fin K)} (h : xs.map (·.val) = List.range K) : runF A xs = stF A K K := by
  unfold runF
  rw [h]
  exact runF_range A hK K (Nat.le_refl _)
/-- a round under way: the first q blocks are done -/
def blkF (f : Nat → F) (h : Nat) (P : Nat → F) (q p : Nat) : F := if p < q * (h + h) then layF f h P p else f p
theorem blk_step {f : Nat → F} {h q N : Nat} {P : Nat → F} (h1 : 1 ≤ h) : tabF N (bfF (blkF f h P q) (q * (h + h)) h P h) = tabF N (blkF f h P (q + 1)) := by
  refine tabF_congr fun p _ => ?_
  have e : (q + 1) * (h + h) = q * (h + h) + (h + h) := by rw [Nat.add_mul, Nat.one_mul]
  obtain ⟨o, ho⟩ : ∃ o, o = q * (h + h) := ⟨_, rfl⟩
  have hm : ∀ r, r < h + h → (o + r) % (h + h) = r := by
    intro r hr
    rw [ho, Nat.add_comm, Nat.add_mul_mod_self_right, Nat.mod_eq_of_lt hr]
  unfold bfF blkF
  rw [e, ← ho]
  by_cases c1 : p < o
  · rw [if_neg (show ¬ (o ≤ p ∧ p < o + h) by omega), if_neg (show ¬ (o + h ≤ p ∧ p < o + h + h) by omega), if_pos c1, if_pos (show p < o + (h + h) by omega)]
  · by_cases c2 : p < o + h
    · obtain ⟨r, rfl⟩ : ∃ r, p = o + r := ⟨p - o, by omega⟩
      rw [if_pos (show o ≤ o + r ∧ o + r < o + h by omega), if_neg c1, if_neg (show ¬ o + r + h < o by omega), if_pos (show o + r < o + (h + h) by omega)]
      unfold layF
      rw [hm r (by omega), if_pos (by omega), show o + r - o = r by omega]
    · by_cases c3 : p < o + h + h
      · obtain ⟨r, rfl⟩ : ∃ r, p = o + h + r := ⟨p - (o + h), by omega⟩
        rw [if_neg (show ¬ (o ≤ o + h + r ∧ o + h + r < o + h) by omega), if_pos (show o + h ≤ o + h + r ∧ o + h + r < o + h + h by omega), if_neg (show ¬ o + h + r - h < o by omega), if_neg c1, if_pos (show o + h + r < o + (h + h) by omega)]
        unfold layF
        rw [show o + h + r = o + (h + r) by omega, hm (h + r) (by omega), if_neg (by omega), show o + (h + r) - (o + h) = r by omega, show h + r - h = r by omega]
      · rw [if_neg (show ¬ (o ≤ p ∧ p < o + h) by omega), if_neg (show ¬ (o + h ≤ p ∧ p < o + h + h) by omega), if_neg c1, if_neg (show ¬ p < o + (h + h) by omega)]
theorem blk_zero (f : Nat → F) (h : Nat) (P : Nat → F) (p : Nat) : blkF f h P 0 p = f p := if_neg (by omega)
theorem blk_last {f : Nat → F} {h q N : Nat} {P : Nat → F} (hN : q * (h + h) = N) : tabF N (blkF f h P q) = tabF N (layF f h P) := tabF_congr fun p hp => if_pos (by omega)
theorem blocks {N K i q : Nat} (hN : N = 2 ^ K) (hi : i < K) (hq : q * (2 ^ i + 2 ^ i) < N) : (q + 1) * (2 ^ i + 2 ^ i) ≤ N := by
  obtain ⟨m, hm⟩ : ∃ m, K = i + 1 + m := ⟨K - i - 1, by omega⟩
  have e : N = 2 ^ m * (2 ^ i + 2 ^ i) := by rw [hN, hm, Nat.pow_add, pow2_succ, Nat.mul_comm]
  rw [e] at hq ⊢
  exact Nat.mul_le_mul_right _ (Nat.lt_of_mul_lt_mul_right hq)

theorem wpIn_named {F : Fence} {m : Nat} {P : Program} {c : Code} {Q : Exit → Act → World → Prop} {a : Act} (K : World → Prop) {w : World} (hK : K w) (h : ∀ W, K W → c.wpIn F m P Q a W) : c.wpIn F m P Q a w := h w hK
theorem one_ownF {β : Type} (b : Nat) (t : TypeId) (f : β → Value) : Own (fun s W => One W b t (f s)) := fun _ _ _ _ hs hg hr => (grownBy_keeps_cells hg hr hs rfl).trans hs
theorem row_ownF {β : Type} (b : Nat) (f : β → List F) : Own (fun s W => RowF W b (f s)) := fun _ _ _ _ hs hg hr => (grownBy_keeps_cells hg hr hs rfl).trans hs
theorem and_ownF {β : Type} {I J : β → World → Prop} (h : Own I) (k : Own J) : Own (fun s W => I s W ∧ J s W) := fun s X Y row hs hg hr => ⟨h s X Y row hs.1 hg hr, k s X Y row hs.2 hg hr⟩
theorem keepsOthers_below {W W1 : World} (hb : Below W.heap.size W W1) : KeepsOthers W W1 := ⟨hb.size, fun _ _ hk _ => heap_keep hk hb⟩
theorem keepsOthers_grown {W W' : World} {g : Nat} {xs : List F} (hg : W.grownBy W' (some g)) (hr : RowF W g xs) : KeepsOthers W W' := ⟨hg.size, fun k o hk ho => (hg.block k (Array.getElem?_eq_some_iff.1 hk).1 (fun e => by injection e with e; subst e; unfold RowF at hr; rw [hr] at hk; injection hk with hk; subst hk; cases ho)).trans hk⟩
theorem butterflies_L (g o h L gp N : Nat) (f P : Nat → F) (w : World) (hL : L = h + h) (hr : RowF w g (tabF N f)) (hp : RowF w gp (tabF h P)) (hg : g ≠ gp) (h1 : 1 ≤ h) (ho : o + L ≤ N) (hN : N ≤ 65536) :
    Calls Try.prog 81 #[.slice (some ⟨g, o, none⟩) L L, .slice (some ⟨gp, 0, none⟩) h h] w fun e w' => (∃ v, e = .returned v) ∧ RowF w' g (tabF N (bfF f o h P h)) ∧ w.grownBy w' (some g) := by
  subst hL
  exact butterflies_any g o h gp N f P w hr hp hg h1 ho hN

/-- the inner loop: q blocks are done -/
def BlkI (f P : Nat → F) (H N g : Nat) (w : World) (v : Value) (wr : World) : Prop :=
  ∃ q O : Nat, O = q * (H + H) ∧ O ≤ N ∧ (O < N → v = .slice (some ⟨g, O, none⟩) (N - O) (N - O)) ∧ (O = N → ∃ A, v = .slice A 0 0) ∧ RowF wr g (tabF N (blkF f H P q)) ∧ w.grownBy wr (some g)
def lenV : Value → Nat
  | .slice _ k _ => k
  | _ => 0
/-- what memory holds after the rounds pre -/
def TrI {K : Nat} (xs : List F) (N : Nat) (w W1 : World) (pre : List (Fin K)) (W : World) : Prop :=
  (One W W1.heap.size 22 (.slice (some ⟨w.heap.size, 0, none⟩) N N) ∧ RowF W w.heap.size (tabF N (runF (cfF xs) pre))) ∧ Below w.heap.size w W
theorem TrI.own {K : Nat} (xs : List F) (N : Nat) (w W1 : World) (B : Nat) (hB : w.heap.size ≤ B) : OwnFrom B (TrI (K := K) xs N w W1) :=
  OwnFrom.and (Own.from (and_ownF (one_ownF _ _ _) (row_ownF _ _)) _) (ownFrom_below (Nat.le_refl _) hB)

set_option maxRecDepth 100000 in
set_option maxHeartbeats 4000000 in
theorem transform_any (A : Option Addr) (n c : Nat) (xs : List F) (N K : Nat) (w : World) (h : Sf w A n c xs) (hN : N = 2 ^ K) (hK : K ≤ 16) (hn : n ≤ N) :
    Calls Try.prog 62 #[.slice A n c, .int .i64 (N : Int)] w fun e w' => ∃ g, e = .returned (.slice (some ⟨g, 0, none⟩) N N) ∧ w.heap.size ≤ g ∧ RowF w' g (tabF N (fwdF (cfF xs) K)) ∧ Below w.heap.size w w' := by
  refine (callsIn_wide (n := 3)).1 ?_
  refine callsIn_of_wp_marks Try.func62 rfl trivial ?_ rfl
  have HN := Lib.hid hN
  have HS := Lib.hid h
  clear hN h
  simp only [Try.ntmps62, List.size_toArray, List.length_cons, List.length_nil, Nat.reduceAdd, Nat.reduceSub, Array.replicate_succ, Array.replicate_zero, List.push_toArray, List.append_toArray, List.nil_append, List.cons_append]
  gi_wp2_with (refine ⟨trivial, ?_⟩; gi_at_call 78; refine (callsIn_wide.2 (scatter_any A n c xs N K _ HS.out HN.out hK hn)).mono ?_; rintro e W1 ⟨rfl, hr, hb⟩; have HR := Lib.hid hr; have HB := Lib.hid hb; clear hr hb)
  refine ⟨trivial, ?_⟩
  refine (callsIn_wide.2 (lengths_any (N : Int) _)).mono ?_
  rintro e w' ⟨rfl, rfl⟩
  gi_wp2
  have hwW := HR.out.lt
  refine wpIn_named (fun W => Below W1.heap.size W1 W ∧ One W W1.heap.size 22 (.slice (some ⟨w.heap.size, 0, none⟩) N N) ∧ One W (W1.heap.size + 1) 3 (.int .i64 (N : Int))) ⟨((Below.refl _ _).alloc (Nat.le_refl _) _).alloc (by simp) _, (One.new _ _ _).alloc _, by have := One.new (W1.alloc (.cells #[.slice (some ⟨w.heap.size, 0, none⟩) N N] 22)) 3 (.int .i64 (N : Int)); simpa using this⟩ (fun W hW => ?_)
  obtain ⟨hBW, g5, gN⟩ := hW
  have HBW := Lib.hid (bel_step HB.out hBW)
  have HRW := Lib.hid (HR.out.keep hBW)
  clear hBW HR HB
  refine wpIn_rangeFunc_ownF rfl (by omega) (gf := 91) (lb := #[.pointer (some ⟨W1.heap.size + 1, 0, none⟩)]) rfl trivial (enters_of Try.func91 (by kernel_rfl) rfl) (lengths_stops _ N K HN.out hK W (One.c gN)) keepsC_t keepsC_b (Below.refl _ _) (fun _ => rfl)
    (TrI (K := K) xs N w W1) (fun _ _ _ => False) (TrI.own xs N w W1 _ HBW.out.size) (fun _ _ _ _ _ hs _ _ => hs) ⟨⟨g5, HRW.out⟩, HBW.out⟩
    (fun i => { tmps := #[.slice A n c, .int .i64 (N : Int), undef, undef, .slice none 0 0, .pointer (some ⟨W1.heap.size, 0, none⟩), .int .i64 ((i.val : Int) + 1), .int .i64 ((pwN (i.val + 1) : Nat) : Int), undef, undef, .slice A n c, .int .i64 (N : Int), .slice (some ⟨w.heap.size, 0, none⟩) N N, .int .i64 (N : Int), .func (.func 91) #[] #[.pointer (some ⟨W1.heap.size + 1, 0, none⟩)], .int .i64 ((i.val : Int) + 1), .int .i64 ((pwN (i.val + 1) : Nat) : Int), undef, undef, undef, undef, undef, undef, undef, undef, undef, undef, undef, undef, undef, undef, undef, undef], defers := [] }) ?assign ?body ?done ?stop
  case assign =>
    intro l b W K hK
    gi_wp2
    exact hK
  case body =>
    clear g5 gN HBW HRW
    rintro l pre i Wb ⟨⟨h5, hr⟩, hB⟩ _
    obtain ⟨f, hf⟩ : ∃ f, f = runF (cfF xs) pre := ⟨_, rfl⟩
    have HF := Lib.hid hf
    rw [← hf] at hr
    clear hf
    obtain ⟨H, hH⟩ : ∃ H, H = 2 ^ i.val := ⟨_, rfl⟩
    have hH1 : 1 ≤ H := by rw [hH]; exact Nat.two_pow_pos _
    have hi := i.isLt
    have hL : pwN (i.val + 1) = H + H := by rw [hH]; exact pwN_succ _
    have hN2 : N ≤ 65536 := by rw [HN.out]; exact pow2_le hK
    have hLN : H + H ≤ N := by
      have := blocks (q := 0) HN.out hi (by rw [Nat.zero_mul, HN.out]; exact Nat.two_pow_pos _)
      rw [← hH] at this
      omega
    generalize hLe : pwN (i.val + 1) = L at *
    have HH := Lib.hid hH
    have HL := Lib.hid hL
    have H5 := Lib.hid h5
    have HR := Lib.hid hr
    have HB := Lib.hid hB
    have hL1 : 1 ≤ L := by omega
    have hL2 : L ≤ N := by omega
    have c5 := h5.c
    clear hH hL h5 hr hB hLe hLN
    gi_wp2_with (refine ⟨trivial, ?_⟩; gi_at_call 80; refine (CallsIn.inRound l (callsIn_wide.2 (rootPowers_any i.val H _ HH.out (by omega)))).mono ?_; rintro e Wp ⟨rfl, hp, hb⟩; have HP := Lib.hid hp; have HBp := Lib.hid hb; replace c5 := cell_keep c5 hb; clear hp hb)
    have HRp := Lib.hid (HR.out.keep HBp.out)
    have H5p := Lib.hid (H5.out.keep HBp.out)
    have hgw : w.heap.size < Wb.heap.size := HR.out.lt
    gi_loopw [9] (fun v wr => BlkI f (fun t : Nat => rootF (i.val + 1) ^ t) H N w.heap.size Wp v wr) (fun v _ => lenV v)
    case atStart => exact ⟨0, 0, (Nat.zero_mul _).symm, Nat.zero_le _, fun _ => rfl, fun h => by omega, by rw [tabF_congr (g := f) fun p _ => blk_zero f H _ p]; exact HRp.out, World.grownBy.refl _ _⟩
    case round =>
      obtain ⟨q, O, hO, hON, hv1, hv2, hr, hg⟩ := hrel
      have HO := Lib.hid hO
      have HR1 := Lib.hid hr
      have HG := Lib.hid hg
      clear hO hr hg
      by_cases hlt : O < N
      · obtain rfl := hv1 hlt
        have hnext : O + L ≤ N := by
          have := blocks (q := q) HN.out hi (by rw [← HH.out, ← HO.out]; exact hlt)
          rw [← HH.out, Nat.add_mul, Nat.one_mul, ← HO.out, ← HL.out] at this
          exact this
        have HP1 := Lib.hid (HP.out.same (HG.out.block _ HP.out.lt (fun e => by injection e with e; omega)))
        have hd1 : 0 < N - O := by omega
        have hd2 : L ≤ N - O := by omega
        have hd3 : (L : Int) ≤ ((N - O : Nat) : Int) := by omega
        clear hv1 hv2
        by_cases hlast : N - O = L
        · gi_wp2_with (refine ⟨trivial, ?_⟩; gi_at_call 81; refine (CallsIn.inRound l (callsIn_wide.2 (butterflies_L w.heap.size O H L Wb.heap.size N (blkF f H (fun t : Nat => rootF (i.val + 1) ^ t) q) (fun t : Nat => rootF (i.val + 1) ^ t) _ HL.out HR1.out HP1.out (by omega) hH1 hnext hN2))).mono ?_; rintro e W2 ⟨⟨v, rfl⟩, hr2, hg2⟩; have HR2 := Lib.hid hr2; have HG2 := Lib.hid hg2; clear hr2 hg2)
          have hr3 := HR2.out
          have e3 := blk_step (f := f) (q := q) (N := N) (P := fun t : Nat => rootF (i.val + 1) ^ t) hH1
          rw [← HO.out] at e3
          rw [e3] at hr3
          have hO3 : O + L = (q + 1) * (H + H) := by rw [Nat.add_mul, Nat.one_mul, ← HO.out, HL.out]
          exact ⟨⟨q + 1, O + L, hO3, hnext, fun h => by omega, fun _ => ⟨_, rfl⟩, hr3, grown_trans HG.out HG2.out⟩, by show 0 < N - O; omega⟩
        · have hl2 : ¬ N - O = L := hlast
          have hl3 : ¬ L = N - O := fun h => hlast h.symm
          clear hlast
          gi_wp2_with (refine ⟨trivial, ?_⟩; gi_at_call 81; refine (CallsIn.inRound l (callsIn_wide.2 (butterflies_L w.heap.size O H L Wb.heap.size N (blkF f H (fun t : Nat => rootF (i.val + 1) ^ t) q) (fun t : Nat => rootF (i.val + 1) ^ t) _ HL.out HR1.out HP1.out (by omega) hH1 hnext hN2))).mono ?_; rintro e W2 ⟨⟨v, rfl⟩, hr2, hg2⟩; have HR2 := Lib.hid hr2; have HG2 := Lib.hid hg2; clear hr2 hg2)
          have hr3 := HR2.out
          have e3 := blk_step (f := f) (q := q) (N := N) (P := fun t : Nat => rootF (i.val + 1) ^ t) hH1
          rw [← HO.out] at e3
          rw [e3] at hr3
          have hO3 : O + L = (q + 1) * (H + H) := by rw [Nat.add_mul, Nat.one_mul, ← HO.out, HL.out]
          exact ⟨⟨q + 1, O + L, hO3, hnext, fun _ => by rw [Nat.sub_sub], fun h => by omega, hr3, grown_trans HG.out HG2.out⟩, by show N - O - L < N - O; omega⟩
      · obtain rfl : O = N := by omega
        obtain ⟨A9, rfl⟩ := hv2 rfl
        clear hv1 hv2
        gi_wp2
        have hne : ∀ k, W1.heap.size ≤ k → some k ≠ some w.heap.size := fun k hk e => by injection e with e; omega
        refine ⟨(keepsOthers_below HBp.out).trans (keepsOthers_grown HG.out HRp.out), fun v hv => ?_, ⟨(HG.out.block _ H5p.out.lt (hne _ (Nat.le_refl _))).trans H5p.out, ?_⟩, Below.grown (bel_step HB.out HBp.out) HG.out (by have := HB.out.size; have := HBp.out.size; omega) (fun k e => by injection e with e; omega)⟩
        · have h1 := cell_keep hv HBp.out
          exact (World.cell?_of_block (HG.out.block _ (World.block_lt_of_cell? _ _ h1) (hne _ (Nat.le_succ _)))).trans h1
        · have h1 := HR1.out
          rw [blk_last HO.out.symm] at h1
          rw [runF_snoc, ← HF.out]
          unfold stepF
          rw [← HH.out]
          exact h1
  case done =>
    rintro D ys W2 hD hys ⟨⟨h5, hr⟩, hB2⟩ hK2
    rw [runF_all _ (by omega) hys, tabF_congr (g := fwdF (cfF xs) K) (fun p hp => stF_last _ (by rw [← HN.out]; exact hp))] at hr
    have c5 := h5.c
    have HR := Lib.hid hr
    have HK := Lib.hid hK2
    have HB2 := Lib.hid hB2
    have HD := Lib.hid hD
    clear hr h5 hK2 hB2 hD hys g5 gN HRW
    gi_wp2
    refine ⟨by simp, .inl ⟨_, _, rfl, run_takeDeferred HK.out, ?_⟩⟩
    refine ⟨.slice (some ⟨w.heap.size, 0, none⟩) N N, by simp [results, Try.results62, go_sem], _, rfl, Nat.le_refl _, ?_⟩
    exact ⟨(grownBy_keeps_cells (grownBy_putObj' _ D (.deferred none)) (fun r e => by cases e; exact ⟨_, HK.out, rfl⟩) HR.out rfl).trans HR.out, HB2.out.trans (belowK_b (w := W) HBW.out.size _ D _ _ HD.out HK.out rfl rfl)⟩
  case stop =>
    rintro D c pre W _ _ h _
    exact h.elim

end Go.Proofs.Ytkefijogpiofbaa.J

namespace Go.Proofs.Ytkefijogpiofbaa.J
set_option linter.unusedVariables false
set_option linter.unusedSimpArgs false
set_option linter.unusedSectionVars false
set_option maxRecDepth 8000
open Go.RowKit Gold

theorem vF_natF {n : Nat} (h : n ≤ 70000) : vF (natF n) = (n : Int) := vF_toF_El (by unfold El; omega)
theorem RowF.own {w : World} {g : Nat} {xs : List F} (h : RowF w g xs) {n : Nat} (hn : n = xs.length) (ht : n ≤ 70000) : Sf w (some ⟨g, 0, none⟩) n n xs := h.sl hn (Nat.le_refl _) (by omega)

set_option maxHeartbeats 1000000 in
theorem invert_any (A : Option Addr) (n c : Nat) (xs : List F) (K : Nat) (w : World) (h : Sf w A n c xs) (hN : n = 2 ^ K) (hK : K ≤ 16) :
    Calls Try.prog 87 #[.slice A n c] w fun e w' => ∃ g, e = .returned (.slice (some ⟨g, 0, none⟩) n n) ∧ w.heap.size ≤ g ∧ RowF w' g (tabF n (invT (cfF xs) K)) ∧ Below w.heap.size w w' := by
  have hN1 : 1 ≤ n := by rw [hN]; exact Nat.two_pow_pos K
  have hN2 : n ≤ 65536 := by rw [hN]; exact pow2_le hK
  have hcap := h.cap
  have htop := h.top
  have HN := Lib.hid hN
  have HS := Lib.hid h
  have hv := vF_natF (n := n) (by omega)
  have hne := natF_ne (n := n) hN1 hN2
  have HV := Lib.hid hv
  have HNE := Lib.hid hne
  clear hN h hv hne
  have hmk := run_makeF n (by omega)
  go_enter Try.func87, Try.ntmps87
  go_wp2_with fail
  rw [← HV.out]
  refine (invF_any (natF n) _ HNE.out).mono ?_
  rintro e W1 ⟨rfl, hb1⟩
  rw [HV.out]
  have HB1 := Lib.hid hb1
  clear hb1
  obtain ⟨s, hs⟩ : ∃ s, s = invF (natF n) := ⟨_, rfl⟩
  rw [← hs]
  have HSc := Lib.hid hs
  clear hs
  go_wp2_with (go_at_call 62; refine (transform_any A n c xs n K _ (HS.out.keep HB1.out) HN.out hK (Nat.le_refl _)).mono ?_; rintro e W2 ⟨g, rfl, hg, hr, hb⟩; have HR := Lib.hid hr; have HB2 := Lib.hid (bel_step HB1.out hb); have hg2 : w.heap.size ≤ g := (by have := HB1.out.size; omega); clear hr hb hg)
  clear hmk
  have hgl := HR.out.lt
  go_loopw [24] (fun i wr => ∃ k : Nat, k ≤ n ∧ i = .int .i64 k ∧ RowF wr W2.heap.size (tabF n fun p => if p < k then invT (cfF xs) K p else 0) ∧ Below W2.heap.size W2 wr) (fun i _ => n - (intOf i).toNat)
  case atStart => exact ⟨0, Nat.zero_le _, rfl, by rw [tabF_congr (g := fun _ => 0) fun p _ => if_neg (Nat.not_lt_zero _)]; exact rowF_made W2 _, (Below.refl _ _).alloc (Nat.le_refl _) _⟩
  case round =>
    obtain ⟨k, hk, rfl, hr, hb⟩ := hrel
    have HR1 := Lib.hid hr
    have HB3 := Lib.hid hb
    clear hr hb
    by_cases hlt : k < n
    · obtain ⟨j, hj⟩ : ∃ j, j = (n - k) % n := ⟨_, rfl⟩
      have hjn : j < n := by rw [hj]; exact Nat.mod_lt _ (by omega)
      have hji : ((n : Int) - (k : Int)) % (n : Int) = (j : Int) := by rw [hj, Int.natCast_emod, Int.ofNat_sub (by omega)]
      have h1 := (HR.out.keep HB3.out).at_ (tabF_get (i := j) (fwdF (cfF xs) K) hjn)
      obtain ⟨y, hy⟩ : ∃ y, (tabF n fun p => if p < k then invT (cfF xs) K p else 0)[k]? = some y := ⟨_, tabF_get _ hlt⟩
      have h2 := HR1.out.at_ hy
      have h3 := HR1.out.free k
      have HJ := Lib.hid hj
      obtain ⟨z, hz⟩ : ∃ z, z = fwdF (cfF xs) K j := ⟨_, rfl⟩
      rw [← hz] at h1
      have HZ := Lib.hid hz
      clear hy hj hz
      go_wp2_with (go_at_call 86; refine (mulF s z _).mono ?_; rintro e w1 ⟨rfl, rfl⟩)
      have hval : s * z = invT (cfF xs) K k := by
        rw [HSc.out, HZ.out, HJ.out]
        unfold invT fwdF
        rw [HN.out, vroot_index (by omega) (by rw [← HN.out]; exact hlt)]
      have HR3 := Lib.hid (show RowF (w1.setCell ⟨W2.heap.size, k, none⟩ (.int .u64 (vF (s * z)))) W2.heap.size (tabF n fun p => if p < k + 1 then invT (cfF xs) K p else 0) by
        have h4 := HR1.out.set k (s * z)
        rw [tabF_set, tabF_congr (g := fun p => if p < k + 1 then invT (cfF xs) K p else 0) fun p _ => ?_] at h4
        · exact h4
        · by_cases e : p = k
          · subst e
            rw [if_pos rfl, if_pos (Nat.lt_succ_self _), hval]
          · rw [if_neg e]
            by_cases h5 : p < k
            · rw [if_pos h5, if_pos (by omega)]
            · rw [if_neg h5, if_neg (by omega)])
      go_roundw
      case rel => exact ⟨k + 1, by omega, by go_num, HR3.out, HB3.out.setCell (p := ⟨W2.heap.size, k, none⟩) (Nat.le_refl _) _⟩
      case measure => simp [intOf]; omega
    · obtain rfl : k = n := by omega
      go_wp2_with fail
      go_ret
      exact ⟨_, rfl, HB2.out.size, by rw [tabF_congr (g := fun p => if p < k then invT (cfF xs) K p else 0) fun p hp => (if_pos hp).symm]; exact HR1.out, bel_step HB2.out HB3.out⟩

set_option maxHeartbeats 1000000 in
theorem extend_yes (A : Option Addr) (n c : Nat) (xs : List F) (b N K L : Nat) (w : World) (h : Sf w A n c xs) (hn : n = 2 ^ K) (hb : b = 2 ^ L) (hN : N = 2 ^ (K + L)) (hK : K + L ≤ 16) :
    Calls Try.prog 39 #[.slice A n c, .int .i64 (b : Int)] w fun e w' => ∃ g, e = .returned (.tuple #[.slice (some ⟨g, 0, none⟩) N N, .int .i64 0]) ∧ Sf w' (some ⟨g, 0, none⟩) N N (tabF N (fwdF (cfF xs) (K + L))) ∧ Below w.heap.size w w' := by
  have hN2 : N ≤ 65536 := by rw [hN]; exact pow2_le hK
  have hp : b * n = N := by rw [hn, hb, hN, Nat.pow_add, Nat.mul_comm]
  have hb1 : 1 ≤ b := by rw [hb]; exact Nat.two_pow_pos _
  have hn1 : 1 ≤ n := by rw [hn]; exact Nat.two_pow_pos _
  have hnN : n ≤ N := by rw [← hp]; exact Nat.le_mul_of_pos_left n (by omega)
  have hbN : b ≤ N := by rw [← hp]; exact Nat.le_mul_of_pos_right b (by omega)
  have hw : wrap64 ((b : Int) * (n : Int)) = (N : Int) := by
    rw [← Int.natCast_mul, hp]
    unfold wrap64
    omega
  have Hn := Lib.hid hn
  have Hb := Lib.hid hb
  have HN := Lib.hid hN
  have HS := Lib.hid h
  have hp0 : ((b : Int) * (n : Int)) = (N : Int) := by rw [← Int.natCast_mul, hp]
  clear hn hb hN h hp
  go_enter Try.func39, Try.ntmps39
  go_wp2_with fail
  refine (isl_yes n K _ Hn.out (by clear hw hp0; omega)).mono ?_
  rintro e w' ⟨rfl, rfl⟩
  go_wp2_with fail
  refine (isl_yes b L _ Hb.out (by clear hw hp0; omega)).mono ?_
  rintro e w' ⟨rfl, rfl⟩
  go_wp2_with fail
  refine (isl_yes N (K + L) _ HN.out hK).mono ?_
  rintro e w' ⟨rfl, rfl⟩
  go_wp2_with fail
  refine (transform_any A n c xs N (K + L) _ HS.out HN.out hK hnN).mono ?_
  rintro e W2 ⟨g, rfl, hg, hr, hb⟩
  have HR := Lib.hid hr
  have HB := Lib.hid hb
  clear hr hb hw hp0
  go_wp2_with fail
  go_ret2
  exact ⟨_, rfl, HR.out.own (tabF_length _ _).symm (by omega), HB.out⟩
end Go.Proofs.Ytkefijogpiofbaa.J

namespace Go.Proofs.Ytkefijogpiofbaa.J
set_option linter.unusedVariables false
set_option linter.unusedSimpArgs false
set_option linter.unusedSectionVars false
set_option maxRecDepth 8000
open Go.RowKit Gold

set_option maxHeartbeats 2000000 in
theorem polyEval_any (A : Option Addr) (n c : Nat) (xs : List E2) (y : E2) (w : World) (h : Sl w A n c xs) :
    Calls Try.prog 43 #[.slice A n c, .agg #[.int .u64 (vF y.A), .int .u64 (vF y.B)]] w fun e w' => e = .returned (.agg #[.int .u64 (vF (evE xs y).A), .int .u64 (vF (evE xs y).B)]) ∧ Below w.heap.size w w' := by
  have hnc := h.cap
  have hct := h.top
  have HL := Lib.hid h.len
  have HS := Lib.hid h
  clear h
  go_enter Try.func43, Try.ntmps43
  go_wp2_with fail
  refine wp_named3 (fun W hB g0 g1 g2 hz => ?_)
  have HB := Lib.hid hB
  have HY := Lib.hid (show Two W w.heap.size 31 (.int .u64 (vF y.A)) (.int .u64 (vF y.B)) from g0)
  have HR := Lib.hid (show Two W (w.heap.size + 1) 31 (.int .u64 0) (.int .u64 0) from g1)
  have HV := Lib.hid (show Two W (w.heap.size + 1 + 1) 31 (.int .u64 0) (.int .u64 0) from g2)
  clear hB g0 g1 g2
  go_loopw [6] (fun s wr => ∃ k : Nat, k ≤ n ∧ s = .int .i64 ((k : Int) - 1) ∧ Two wr w.heap.size 31 (.int .u64 (vF y.A)) (.int .u64 (vF y.B)) ∧ Two wr (w.heap.size + 1) 31 (.int .u64 0) (.int .u64 0) ∧ Two wr (w.heap.size + 1 + 1) 31 (.int .u64 (vF (evFrom xs y k).A)) (.int .u64 (vF (evFrom xs y k).B)) ∧ Below w.heap.size w wr) (fun s _ => (intOf s + 1).toNat)
  case atStart =>
    refine ⟨n, Nat.le_refl _, rfl, HY.out, HR.out, ?_, HB.out⟩
    rw [evFrom_end y (Nat.le_of_eq HL.out.symm)]
    exact HV.out
  case round =>
    clear HB HY HR HV
    obtain ⟨k, hk, rfl, hy, hr, hv, hb⟩ := hrel
    have HY := Lib.hid hy
    have HR := Lib.hid hr
    have HV := Lib.hid hv
    have HB := Lib.hid hb
    clear hy hr hv hb
    cases k with
    | zero =>
      have v0 := HV.out.c0
      have v1 := HV.out.c1
      have r0 := HR.out.c0
      have r1 := HR.out.c1
      have f0 := HR.out.f0
      have f1 := HR.out.f1
      go_wp2_with fail
      refine bodyPost_ret (v := .agg #[.int .u64 (vF (evFrom xs y 0).A), .int .u64 (vF (evFrom xs y 0).B)]) (by simp [results, Try.results43, go_sem, r0, r1]) rfl ⟨rfl, ?_⟩
      exact (HB.out.setCell (Nat.le_succ _) _).setCell (Nat.le_succ _) _
    | succ j =>
      obtain ⟨x, hx⟩ := HS.out.get (show j < n by omega)
      obtain ⟨ad, rfl, h0, h1⟩ := HS.out.at_ hx
      replace h0 := cell_keep h0 HB.out
      replace h1 := cell_keep h1 HB.out
      have HX := Lib.hid hx
      clear hx
      generalize hacc : evFrom xs y (j + 1) = v at HV
      have HA := Lib.hid hacc
      clear hacc
      have v0 := HV.out.c0
      have v1 := HV.out.c1
      have f0 := HV.out.f0
      have f1 := HV.out.f1
      have l0 := Later.cell v0
      have l1 := Later.cell v1
      have l2 := Later.cell HY.out.c0
      have l3 := Later.cell HY.out.c1
      have l4 := Later.cell h0
      have l5 := Later.cell h1
      clear h0 h1
      have hj0 : (0 : Int) ≤ (j : Int) := by omega
      have hj1 : (j : Int) < (n : Int) := by omega
      go_wp2_with fail
      refine wp_later_tail 8 (by kernel_rfl) (by kernel_rfl) ?_
      simp only [List.take_succ_cons, List.take_zero, List.drop_succ_cons, List.drop_zero]
      repeat (go_big_quiet_step (first
        | (go_at_call 66; with_reducible exact Calls.later (extMul_any v y _))
        | (go_at_call 65; with_reducible exact Calls.later (extAdd_any (v * y) x _))))
      refine wpQuiet_nil ?_
      intro X
      clear l0 l1 l2 l3 l4 l5
      have hb := X.below
      replace f0 := free_after hb v0 f0
      replace f1 := free_after hb v1 f1
      replace v0 := cell_after hb v0
      replace v1 := cell_after hb v1
      have HY1 := Lib.hid (HY.out.keep hb)
      have HR1 := Lib.hid (HR.out.keep hb)
      have HV1 := Lib.hid (HV.out.keep hb)
      have HB1 := Lib.hid (below_step HB.out hb)
      clear hb
      go_wp2_with fail
      go_roundw
      case rel =>
        refine ⟨j, by omega, by go_num, (HY1.out.far _ (by simp; omega)).far _ (by simp; omega), (HR1.out.far _ (by simp)).far _ (by simp), ?_, (HB1.out.setCell (by simp; omega) _).setCell (by simp; omega) _⟩
        rw [evFrom_step HX.out, HA.out]
        exact (HV1.out.set0 _).set1 _
      case measure => simp [intOf]

end Go.Proofs.Ytkefijogpiofbaa.J

namespace Gold
set_option linter.unusedVariables false
set_option linter.unusedSimpArgs false
set_option linter.unusedSectionVars false
set_option maxRecDepth 8000

def tbF (n : Nat) (f : Nat → F) : List F := (List.range n).map f
theorem tbF_length (n : Nat) (f : Nat → F) : (tbF n f).length = n := by simp [tbF]
theorem tbF_get {n i : Nat} (f : Nat → F) (h : i < n) : (tbF n f)[i]? = some (f i) := by simp [tbF, h]
theorem cfF_tbF (n : Nat) (f : Nat → F) (i : Nat) : cfF (tbF n f) i = if i < n then f i else 0 := by
  by_cases h : i < n
  · rw [if_pos h, cfF_some (tbF_get f h)]
  · rw [if_neg h, cfF_none (by rw [tbF_length]; omega)]
theorem evL_nil (x : F) : evL [] x = 0 := rfl
theorem evL_cons (a : F) (l : List F) (x : F) : evL (a :: l) x = evL l x * x + a := rfl
theorem evL_congr {xs ys : List F} (h : ∀ i, cfF xs i = cfF ys i) (x : F) : evL xs x = evL ys x := by
  rw [← evL_evF' (n := max xs.length ys.length) (by omega), ← evL_evF' (xs := ys) (n := max xs.length ys.length) (by omega)]
  exact evF_congr (fun i _ => h i) x
theorem evL_zeros {xs : List F} (h : ∀ i, cfF xs i = 0) (x : F) : evL xs x = 0 := evL_congr (ys := []) (fun i => by rw [h i]; rfl) x
theorem F_ext {xs ys : List F} (hl : xs.length = ys.length) (h : ∀ i, i < xs.length → cfF xs i = cfF ys i) : xs = ys := by
  apply List.ext_getElem?
  intro i
  by_cases hi : i < xs.length
  · have h1 := h i hi
    rw [cfF_some (List.getElem?_eq_getElem hi), cfF_some (List.getElem?_eq_getElem (l := ys) (by omega))] at h1
    rw [List.getElem?_eq_getElem hi, List.getElem?_eq_getElem (l := ys) (by omega), h1]
  · rw [List.getElem?_eq_none (by omega), List.getElem?_eq_none (by omega)]
/-- where a polynomial ends, seen from n -/
def trimN (p : List F) : Nat → Nat
  | 0 => 0
  | n + 1 => if cfF p n = 0 then trimN p n else n + 1
/-- without zeros at the end -/
def trimF (p : List F) : List F := p.take (trimN p p.length)
theorem trimN_le (p : List F) : ∀ n, trimN p n ≤ n
  | 0 => Nat.le_refl _
  | n + 1 => by
    unfold trimN
    split
    · have := trimN_le p n; omega
    · omega
theorem trimN_zero (p : List F) : ∀ n i, trimN p n ≤ i → i < n → cfF p i = 0
  | 0, _, _, h => by omega
  | n + 1, i, h1, h2 => by
    unfold trimN at h1
    split at h1
    · next h0 =>
      by_cases e : i = n
      · rw [e]; exact h0
      · exact trimN_zero p n i h1 (by omega)
    · omega
theorem trimN_last (p : List F) : ∀ n m, trimN p n = m + 1 → cfF p m ≠ 0
  | 0, m, h => by unfold trimN at h; omega
  | n + 1, m, h => by
    unfold trimN at h
    split at h
    · exact trimN_last p n m h
    · next h0 =>
      obtain rfl : n = m := by omega
      exact h0
/-- no zero at the end -/
def Trm (p : List F) : Prop := ∀ m, p.length = m + 1 → cfF p m ≠ 0
theorem trimF_length (p : List F) : (trimF p).length = trimN p p.length := by
  unfold trimF
  rw [List.length_take]
  have := trimN_le p p.length
  omega
theorem trimF_le (p : List F) : (trimF p).length ≤ p.length := by rw [trimF_length]; exact trimN_le _ _
theorem cfF_take {p : List F} {n i : Nat} (h : i < n) : cfF (p.take n) i = cfF p i := by unfold cfF; rw [List.getElem?_take_of_lt h]
theorem cfF_trimF (p : List F) (i : Nat) : cfF (trimF p) i = cfF p i := by
  by_cases h : i < trimN p p.length
  · exact cfF_take h
  · rw [cfF_none (by rw [trimF_length]; omega)]
    by_cases h2 : i < p.length
    · exact (trimN_zero p _ i (by omega) h2).symm
    · exact (cfF_none (by omega)).symm
theorem evL_trimF (p : List F) (x : F) : evL (trimF p) x = evL p x := evL_congr (cfF_trimF p) x
theorem trimF_trm (p : List F) : Trm (trimF p) := fun m h => by
  rw [cfF_trimF]
  rw [trimF_length] at h
  exact trimN_last p _ m h
theorem Trm.eq {p q : List F} (hp : Trm p) (hq : Trm q) (h : ∀ i, cfF p i = cfF q i) : p = q := by
  have key : ∀ {p q : List F}, Trm p → (∀ i, cfF p i = cfF q i) → p.length ≤ q.length := fun {p q} hp h => by
    rcases Nat.lt_or_ge q.length p.length with h1 | h1
    · obtain ⟨m, hm⟩ : ∃ m, p.length = m + 1 := ⟨p.length - 1, by omega⟩
      exact absurd ((h m).trans (cfF_none (by omega))) (hp m hm)
    · exact h1
  exact F_ext (Nat.le_antisymm (key hp h) (key hq fun i => (h i).symm)) fun i _ => h i
theorem trm_nil : Trm [] := fun m h => by simp at h

def liE (xs : List F) : List E2 := xs.map E2.ofF
theorem liE_length (xs : List F) : (liE xs).length = xs.length := by simp [liE]
theorem ofF_inj {a b : F} (h : E2.ofF a = E2.ofF b) : a = b := congrArg E2.A h
theorem evE_liE (x : F) : ∀ xs : List F, evE (liE xs) (E2.ofF x) = E2.ofF (evL xs x)
  | [] => rfl
  | a :: l => by
    show E2.ofF a + E2.ofF x * evE (liE l) (E2.ofF x) = E2.ofF (evL l x * x + a)
    rw [evE_liE x l, E2.ofF_mul, E2.ofF_add]
    congr 1
    grind
theorem cfE_liE (xs : List F) (i : Nat) : cfE (liE xs) i = E2.ofF (cfF xs i) := by
  unfold cfE cfF liE
  rw [List.getElem?_map]
  cases xs[i]? <;> rfl
/-- as many different roots as coefficients: no coefficients -/
theorem rootsF {p rs : List F} (hl : p.length ≤ rs.length) (hd : rs.Nodup) (h : ∀ r ∈ rs, evL p r = 0) (h2 : p.length ≤ 65536) : ∀ i, cfF p i = 0 := fun i => by
  refine ofF_inj ?_
  rw [← cfE_liE]
  refine cf_zero_of_values (by rw [liE_length]; exact h2) (roots_all p.length (liE p) (liE rs) (by rw [liE_length]; exact Nat.le_refl _) (by rw [liE_length]; exact hl) ?_ fun r hr => ?_) i
  · unfold liE List.Nodup
    rw [List.pairwise_map]
    exact List.Pairwise.imp (fun hab e => hab (ofF_inj e)) hd
  · obtain ⟨x, hx, rfl⟩ := List.mem_map.1 hr
    rw [evE_liE, h x hx]
    rfl
/-- the points of a code of length 2^K -/
def ptF (K i : Nat) : F := rootF K ^ i
theorem ptF_inj {K i j : Nat} (hK : K ≤ 32) (hi : i < 2 ^ K) (hj : j < 2 ^ K) (h : ptF K i = ptF K j) : i = j := by
  have key : ∀ {i j : Nat}, i < j → j < 2 ^ K → ptF K i ≠ ptF K j := fun {i j} hij hj e => by
    obtain ⟨d, rfl⟩ : ∃ d, j = i + d := ⟨j - i, by omega⟩
    unfold ptF at e
    rw [F_pow_add] at e
    have hv := vroot_pow hK i
    have h1 : rootF K ^ d = 1 := by
      have e2 : rootF K ^ i * vrootF K ^ i = rootF K ^ i * rootF K ^ d * vrootF K ^ i := by rw [← e]
      rw [hv] at e2
      have e3 : rootF K ^ i * rootF K ^ d * vrootF K ^ i = rootF K ^ i * vrootF K ^ i * rootF K ^ d := by grind
      rw [e3, hv] at e2
      grind
    exact rootF_ne K hK d (by omega) (by omega) h1
  rcases Nat.lt_trichotomy i j with h1 | h1 | h1
  · exact absurd h (key h1 hj)
  · exact h1
  · exact absurd h.symm (key h1 hi)
theorem ptF_full {K i : Nat} (hK : K ≤ 32) : ptF K i ^ (2 ^ K) = 1 := by
  unfold ptF
  rw [← F_pow_mul, Nat.mul_comm, F_pow_mul, rootF_full hK, F_one_pow]
/-- zero at all points of a set of indices that is as great as the list -/
theorem zero_at {p : List F} {K : Nat} (hK : K ≤ 16) (is : List Nat) (hn : is.Nodup) (hi : ∀ i ∈ is, i < 2 ^ K) (hle : is.length ≤ 65536) (hl : p.length ≤ is.length) (h : ∀ i ∈ is, evL p (ptF K i) = 0) : ∀ i, cfF p i = 0 := by
  refine rootsF (rs := is.map (ptF K)) (by rw [List.length_map]; exact hl) ?_ (fun r hr => ?_) (by omega)
  · unfold List.Nodup
    rw [List.pairwise_map]
    exact List.Pairwise.imp_of_mem (fun {a b} ha hb hab e => hab (ptF_inj (by omega) (hi a ha) (hi b hb) e)) hn
  · obtain ⟨i, h1, rfl⟩ := List.mem_map.1 hr
    exact h i h1

/-- a - c X^s b -/
def mnF (a b : List F) (s : Nat) (c : F) : List F := trimF (tbF (max a.length (s + b.length)) fun i => cfF a i - if s ≤ i then c * cfF b (i - s) else 0)
theorem cfF_mnF (a b : List F) (s : Nat) (c : F) (i : Nat) : cfF (mnF a b s c) i = cfF a i - if s ≤ i then c * cfF b (i - s) else 0 := by
  unfold mnF
  rw [cfF_trimF, cfF_tbF]
  split
  · rfl
  · rw [cfF_none (by omega)]
    split
    · rw [cfF_none (xs := b) (by omega)]; grind
    · grind
theorem mnF_le (a b : List F) (s : Nat) (c : F) : (mnF a b s c).length ≤ max a.length (s + b.length) := by
  have := trimF_le (tbF (max a.length (s + b.length)) fun i => cfF a i - if s ≤ i then c * cfF b (i - s) else 0)
  rw [tbF_length] at this
  exact this
theorem mnF_trm (a b : List F) (s : Nat) (c : F) : Trm (mnF a b s c) := trimF_trm _
theorem evF_shift (g : Nat → F) (s : Nat) (c x : F) (n : Nat) : evF (fun i => if s ≤ i then c * g (i - s) else 0) (s + n) x = c * x ^ s * evF g n x := by
  unfold evF
  rw [sumF_split, sumF_congr (g := fun _ => 0) (fun i hi => by show (if s ≤ i then c * g (i - s) else 0) * x ^ i = 0; rw [if_neg (by omega)]; grind), sumF_zero, ← sumF_mul, F_zero_add]
  exact sumF_congr fun i _ => by show (if s ≤ s + i then c * g (s + i - s) else 0) * x ^ (s + i) = _; rw [if_pos (by omega), show s + i - s = i by omega, F_pow_add]; grind
theorem evL_mnF (a b : List F) (s : Nat) (c x : F) : evL (mnF a b s c) x = evL a x - c * x ^ s * evL b x := by
  have h1 : evL (mnF a b s c) x = evF (cfF (mnF a b s c)) (s + max a.length b.length) x := (evL_evF' (by have := mnF_le a b s c; omega) x).symm
  have h2 : evF (fun i => cfF a i - if s ≤ i then c * cfF b (i - s) else 0) (s + max a.length b.length) x = evF (cfF a) (s + max a.length b.length) x - evF (fun i => if s ≤ i then c * cfF b (i - s) else 0) (s + max a.length b.length) x := by
    have e := evF_add (fun i => cfF a i - if s ≤ i then c * cfF b (i - s) else 0) (fun i => if s ≤ i then c * cfF b (i - s) else 0) (s + max a.length b.length) x
    rw [evF_congr (b := cfF a) (fun i _ => by grind)] at e
    grind
  rw [h1, evF_congr (fun i _ => cfF_mnF a b s c i), h2, evF_shift, evL_evF' (by omega), evL_evF' (by omega)]
/-- a value and its factor -/
abbrev PrF := List F × List F
def stpC (p d : PrF) : F := cfF p.1 (p.1.length - 1) * invF (cfF d.1 (d.1.length - 1))
def stpF (p d : PrF) : PrF := (mnF p.1 d.1 (p.1.length - d.1.length) (stpC p d), mnF p.2 d.2 (p.1.length - d.1.length) (stpC p d))
theorem stpF_len {p d : PrF} (hd : Trm d.1) (h0 : d.1.length ≠ 0) (hp : d.1.length ≤ p.1.length) : (stpF p d).1.length < p.1.length := by
  have hle := mnF_le p.1 d.1 (p.1.length - d.1.length) (stpC p d)
  have ht := mnF_trm p.1 d.1 (p.1.length - d.1.length) (stpC p d)
  have hc := cfF_mnF p.1 d.1 (p.1.length - d.1.length) (stpC p d) (p.1.length - 1)
  show (mnF p.1 d.1 (p.1.length - d.1.length) (stpC p d)).length < p.1.length
  rcases Nat.lt_or_ge (mnF p.1 d.1 (p.1.length - d.1.length) (stpC p d)).length p.1.length with h1 | h1
  · exact h1
  · refine absurd ?_ (ht (p.1.length - 1) (by omega))
    rw [hc, if_pos (by omega), show p.1.length - 1 - (p.1.length - d.1.length) = d.1.length - 1 by omega]
    unfold stpC
    have hi := mul_invF (hd (d.1.length - 1) (by omega))
    grind
end Gold

namespace Gold
set_option linter.unusedVariables false
set_option linter.unusedSimpArgs false
set_option linter.unusedSectionVars false
set_option maxRecDepth 8000
structure InvF (n k K : Nat) (w : Nat → F) (r d : PrF) : Prop where
  t1 : Trm r.1
  t2 : Trm d.1
  u1 : Trm r.2
  u2 : Trm d.2
  big : n + k + 2 ≤ 2 * d.1.length
  a : r.2.length + d.1.length ≤ n + 2
  b : d.2.length + r.1.length ≤ n + 2
  v1 : ∀ i, i < n → evL r.1 (ptF K i) = evL r.2 (ptF K i) * w i
  v2 : ∀ i, i < n → evL d.1 (ptF K i) = evL d.2 (ptF K i) * w i
  det : ∃ e : F, e ≠ 0 ∧ ∀ x, evL r.1 x * evL d.2 x - evL d.1 x * evL r.2 x = e * (x ^ n - 1)
section
variable {n k K : Nat} {w : Nat → F} {r d : PrF}
theorem InvF.swap (h : InvF n k K w r d) (hb : ¬ 2 * r.1.length < n + k + 2) : InvF n k K w d r := by
  refine ⟨h.t2, h.t1, h.u2, h.u1, by omega, h.b, h.a, h.v2, h.v1, ?_⟩
  obtain ⟨e, he, hd⟩ := h.det
  refine ⟨-e, fun h0 => he (by grind), fun x => ?_⟩
  have := hd x
  grind
theorem InvF.step (h : InvF n k K w r d) (hl : d.1.length ≤ r.1.length) : InvF n k K w (stpF r d) d := by
  have hb := h.big
  have hlt := stpF_len h.t2 (by omega) hl
  have ha := h.a
  have hbb := h.b
  have h2 := mnF_le r.2 d.2 (r.1.length - d.1.length) (stpC r d)
  refine ⟨mnF_trm _ _ _ _, h.t2, mnF_trm _ _ _ _, h.u2, h.big, ?_, by omega, fun i hi => ?_, h.v2, ?_⟩
  · show (mnF r.2 d.2 (r.1.length - d.1.length) (stpC r d)).length + d.1.length ≤ n + 2
    omega
  · show evL (mnF r.1 d.1 _ _) _ = evL (mnF r.2 d.2 _ _) _ * w i
    rw [evL_mnF, evL_mnF, h.v1 i hi, h.v2 i hi]
    grind
  · obtain ⟨e, he, hd⟩ := h.det
    refine ⟨e, he, fun x => ?_⟩
    show evL (mnF r.1 d.1 _ _) x * evL d.2 x - evL d.1 x * evL (mnF r.2 d.2 _ _) x = _
    rw [evL_mnF, evL_mnF]
    have := hd x
    grind
structure QuoI (p d : List F) (r : PrF) : Prop where
  t1 : Trm r.1
  t2 : Trm r.2
  le : r.1.length ≤ p.length
  le2 : r.2.length ≤ p.length
  val : ∀ x, evL r.1 x + evL r.2 x * evL d x = evL p x
theorem QuoI.start {p d : List F} (h : Trm p) : QuoI p d (p, []) := ⟨h, trm_nil, Nat.le_refl _, Nat.zero_le _, fun x => by show evL p x + evL [] x * evL d x = evL p x; rw [evL_nil]; grind⟩
theorem QuoI.step {p d : List F} {r : PrF} (h : QuoI p d r) (hd : Trm d) (h0 : d.length ≠ 0) (hl : d.length ≤ r.1.length) : QuoI p d (stpF r (d, [-1])) := by
  have hlt := stpF_len (p := r) (d := (d, [-1])) hd h0 hl
  have h2 := mnF_le r.2 [-1] (r.1.length - d.length) (stpC r (d, [-1]))
  have h3 := h.le
  have h4 := h.le2
  refine ⟨mnF_trm _ _ _ _, mnF_trm _ _ _ _, by omega, ?_, fun x => ?_⟩
  · show (mnF r.2 [-1] (r.1.length - d.length) _).length ≤ _
    simp only [List.length_cons, List.length_nil] at h2
    omega
  · show evL (mnF r.1 d (r.1.length - d.length) _) x + evL (mnF r.2 [-1] (r.1.length - d.length) _) x * evL d x = _
    rw [evL_mnF, evL_mnF, ← h.val x, evL_cons, evL_nil]
    grind
/-- the indices at which a row's codeword is the word's symbol -/
def agreeF (n K : Nat) (w : Nat → F) (f : List F) : List Nat := (List.range n).filter fun i => decide (evL f (ptF K i) = w i)
def differF (n K : Nat) (w : Nat → F) (f : List F) : List Nat := (List.range n).filter fun i => !decide (evL f (ptF K i) = w i)
theorem agree_differ (n K : Nat) (w : Nat → F) (f : List F) : (agreeF n K w f).length + (differF n K w f).length = n := by
  have key : ∀ (p : Nat → Bool) (l : List Nat), (l.filter p).length + (l.filter fun i => !p i).length = l.length := fun p l => by
    induction l with
    | nil => rfl
    | cons x l ih => cases h : p x <;> simp [List.filter_cons, h] <;> omega
  have := key (fun i => decide (evL f (ptF K i) = w i)) (List.range n)
  rw [List.length_range] at this
  exact this
theorem filter_nodup (p : Nat → Bool) (n : Nat) : ((List.range n).filter p).Nodup := List.Pairwise.filter p List.nodup_range
theorem all_zero {p : List F} (hl : p.length ≤ 65536) (h : ∀ x, evL p x = 0) : ∀ i, cfF p i = 0 := by
  refine zero_at (K := 16) (by omega) (List.range p.length) List.nodup_range (fun i hi => ?_) (by rw [List.length_range]; exact hl) (by rw [List.length_range]; exact Nat.le_refl _) (fun i _ => h _)
  have := List.mem_range.1 hi
  omega
theorem Trm.nil_of {p : List F} (h : Trm p) (h0 : ∀ i, cfF p i = 0) : p = [] := by
  cases hp : p.length with
  | zero => exact List.eq_nil_of_length_eq_zero hp
  | succ m => exact absurd (h0 m) (h m hp)
theorem InvF.factor (h : InvF n k K w r d) (hn : n = 2 ^ K) (hK : K ≤ 16) (hk : k ≤ n) (hs : 2 * r.1.length < n + k + 2) : r.2.length ≠ 0 := fun h0 => by
  have h2 : r.2 = [] := List.eq_nil_of_length_eq_zero h0
  have hp := Nat.two_pow_pos K
  have h65 := pow2_le hK
  have hz := zero_at (p := r.1) hK (List.range n) List.nodup_range (fun i hi => by have := List.mem_range.1 hi; omega) (by rw [List.length_range]; omega) (by rw [List.length_range]; omega) (fun i hi => by
    rw [h.v1 i (List.mem_range.1 hi), h2, evL_nil]; grind)
  obtain ⟨e, he, hd⟩ := h.det
  have h1 := hd 0
  rw [evL_zeros hz, h2, evL_nil, F_zero_pow n (by omega)] at h1
  exact he (by grind)
theorem conv_top {a b : Nat → F} {l m : Nat} (ha : ∀ i, l < i → a i = 0) (hb : ∀ i, m < i → b i = 0) : convF a b (l + m) = a l * b m := by
  unfold convF
  rw [sumF_one (m := l) (by omega) fun i hi hne => ?_]
  · show a l * b (l + m - l) = _
    rw [show l + m - l = m by omega]
  · show a i * b (l + m - i) = 0
    rcases Nat.lt_or_gt_of_ne hne with h1 | h1
    · rw [hb _ (by omega)]; grind
    · rw [ha _ h1]; grind
/-- a row that agrees at enough points is the quotient of the remainder and its factor -/
theorem InvF.row (h : InvF n k K w r d) (hn : n = 2 ^ K) (hK : K ≤ 16) (hk1 : 1 ≤ k) (hk : k ≤ n) (hs : 2 * r.1.length < n + k + 2) {f : List F} (hf : f.length ≤ k) (hc : (differF n K w f).length ≤ (n - k) / 2) : ∀ x, evL r.1 x = evL r.2 x * evL f x := by
  have hag := agree_differ n K w f
  have hbig := h.big
  have ha := h.a
  have h65 := pow2_le hK
  obtain ⟨N, hN⟩ : ∃ N, (n + k + 1) / 2 = N := ⟨_, rfl⟩
  obtain ⟨U, hU⟩ : ∃ U, tbF N (fun i => cfF r.1 i - convF (cfF r.2) (cfF f) i) = U := ⟨_, rfl⟩
  have hUl : U.length = N := by rw [← hU, tbF_length]
  have hval : ∀ x, evL U x = evL r.1 x - evL r.2 x * evL f x := fun x => by
    rw [← evL_evF' (xs := U) (n := N) (by omega), ← hU]
    have e1 : evF (cfF (tbF N fun i => cfF r.1 i - convF (cfF r.2) (cfF f) i)) N x = evF (fun i => cfF r.1 i - convF (cfF r.2) (cfF f) i) N x := evF_congr (fun i hi => by rw [cfF_tbF, if_pos hi]) x
    have e2 := evF_add (fun i => cfF r.1 i - convF (cfF r.2) (cfF f) i) (convF (cfF r.2) (cfF f)) N x
    rw [evF_congr (b := cfF r.1) (fun i _ => by grind)] at e2
    rw [evF_conv (la := r.2.length) (lb := f.length) (fun i hi => cfF_none hi) (fun i hi => cfF_none hi) (by omega), evL_evF' (by omega), evL_evF' (by omega), evL_evF' (by omega)] at e2
    rw [e1]
    grind
  have hz := zero_at (p := U) hK (agreeF n K w f) (filter_nodup _ _) (fun i hi => by
    have := List.mem_range.1 (List.mem_filter.1 hi).1
    omega) (by omega) (by omega) (fun i hi => by
    obtain ⟨h1, h2⟩ := List.mem_filter.1 hi
    have h2 : evL f (ptF K i) = w i := by simpa using h2
    rw [hval, h.v1 i (List.mem_range.1 h1), h2]
    grind)
  intro x
  have h1 := hval x
  rw [evL_zeros hz] at h1
  grind
theorem quo_exact {p e f : List F} {q : PrF} (hq : QuoI p e q) (he : Trm e) (hlt : q.1.length < e.length) (hf : Trm f) (hl : p.length + e.length + f.length ≤ 65536) (hv : ∀ x, evL p x = evL e x * evL f x) : q.1 = [] ∧ q.2 = f := by
  have hq1 := hq.le
  have hq2 := hq.le2
  have hm := mnF_le f q.2 0 1
  have hval : ∀ x, evL q.1 x = evL e x * evL (mnF f q.2 0 1) x := fun x => by
    rw [evL_mnF]
    have h1 := hq.val x
    have h2 := hv x
    have h3 := F_pow_zero x
    grind
  have htr := mnF_trm f q.2 0 1
  have hco := cfF_mnF f q.2 0 1
  generalize mnF f q.2 0 1 = g at hm hval htr hco
  have hg : g = [] := by
    cases hgl : g.length with
    | zero => exact List.eq_nil_of_length_eq_zero hgl
    | succ m =>
      exfalso
      obtain ⟨l, hel⟩ : ∃ l, e.length = l + 1 := ⟨e.length - 1, by omega⟩
      obtain ⟨V, hV⟩ : ∃ V, tbF (l + m + 1) (fun i => cfF q.1 i - convF (cfF e) (cfF g) i) = V := ⟨_, rfl⟩
      have hVl : V.length = l + m + 1 := by rw [← hV, tbF_length]
      have hVv : ∀ x, evL V x = 0 := fun x => by
        rw [← evL_evF' (xs := V) (n := l + m + 1) (by omega), ← hV]
        have e1 : evF (cfF (tbF (l + m + 1) fun i => cfF q.1 i - convF (cfF e) (cfF g) i)) (l + m + 1) x = evF (fun i => cfF q.1 i - convF (cfF e) (cfF g) i) (l + m + 1) x := evF_congr (fun i hi => by rw [cfF_tbF, if_pos hi]) x
        have e2 := evF_add (fun i => cfF q.1 i - convF (cfF e) (cfF g) i) (convF (cfF e) (cfF g)) (l + m + 1) x
        rw [evF_congr (b := cfF q.1) (fun i _ => by grind)] at e2
        rw [evF_conv (la := e.length) (lb := g.length) (fun i hi => cfF_none hi) (fun i hi => cfF_none hi) (by omega), evL_evF' (by omega), evL_evF' (by omega), evL_evF' (by omega), hval x] at e2
        rw [e1]
        grind
      have hz := all_zero (by omega) hVv (l + m)
      rw [← hV, cfF_tbF, if_pos (by omega), cfF_none (xs := q.1) (by omega), conv_top (fun i hi => cfF_none (by omega)) (fun i hi => cfF_none (by omega))] at hz
      have hp : cfF e l * cfF g m = 0 := by grind
      exact (F_zero_divisor hp).elim (he l hel) (htr m hgl)
  subst hg
  refine ⟨hq.t1.nil_of (all_zero (by omega) fun x => by rw [hval x, evL_nil]; grind), hq.t2.eq hf fun i => ?_⟩
  have := hco i
  rw [if_pos (Nat.zero_le _), cfF_none (xs := ([] : List F)) (by simp), Nat.sub_zero] at this
  grind
/-- what the quotient is, if it is one, differs at no more places than the factor has roots -/
theorem InvF.near (h : InvF n k K w r d) (hn : n = 2 ^ K) (hK : K ≤ 16) (hk : k ≤ n) (hs : 2 * r.1.length < n + k + 2) {f : List F} (hv : ∀ x, evL r.1 x = evL f x * evL r.2 x) : (differF n K w f).length ≤ (n - k) / 2 := by
  have hne := h.factor hn hK hk hs
  have hbig := h.big
  have ha := h.a
  have h65 := pow2_le hK
  have hag := agree_differ n K w f
  rcases Nat.lt_or_ge (differF n K w f).length r.2.length with h1 | h1
  · omega
  · refine absurd (h.u1.nil_of (zero_at (p := r.2) hK (differF n K w f) (filter_nodup _ _) (fun i hi => by
      have := List.mem_range.1 (List.mem_filter.1 hi).1
      omega) (by omega) h1 (fun i hi => ?_))) (fun e => hne (by rw [e]; rfl))
    obtain ⟨h2, h3⟩ := List.mem_filter.1 hi
    have h3 : ¬ evL f (ptF K i) = w i := by simpa using h3
    have h4 := h.v1 i (List.mem_range.1 h2)
    rw [hv] at h4
    have h5 : evL r.2 (ptF K i) * (evL f (ptF K i) - w i) = 0 := by grind
    exact (F_zero_divisor h5).elim id (fun h6 => absurd (by grind) h3)
end
end Gold

namespace Go.Proofs.Ytkefijogpiofbaa.K
set_option linter.unusedVariables false
set_option linter.unusedSimpArgs false
set_option linter.unusedSectionVars false
set_option maxRecDepth 8000
open Go.RowKit
/-- a field element in a cell -/
def feC (x : Gold.F) : List Value := [.int .u64 (Gold.vF x)]
instance : Enc feC 1 := ⟨fun _ => rfl, fun x u hu => by
  simp only [feC, List.mem_cons, List.not_mem_nil, or_false] at hu
  subst hu
  rfl, by decide⟩
theorem sf_of {w : World} {A : Option Addr} {n c : Nat} {xs : List Gold.F} (h : Sg feC 1 w A n c xs) : J.Sf w A n c xs :=
  ⟨by rw [List.length_map]; exact h.len.symm, h.cap, h.top, h.nil, fun i z hz => by
    rw [List.getElem?_map] at hz
    obtain ⟨x, hx, rfl⟩ := Option.map_eq_some_iff.1 hz
    obtain ⟨g, off, rfl, hr⟩ := h.at_ i x hx
    refine ⟨⟨g, off, none⟩, rfl, ?_⟩
    rw [Addr.add_mid]
    have := hr 0 _ rfl
    rw [Nat.mul_one] at this
    exact this⟩
theorem cellsF_fl (xs : List Gold.F) : J.cellsF xs = xs.flatMap feC := by
  induction xs with
  | nil => rfl
  | cons x l ih => show Value.int .u64 (Gold.vF x) :: J.cellsF l = _; rw [ih]; rfl
section
variable {w : World} {base n m c : Nat} {A : Option Addr} {e : TypeId} {xs : List Gold.F}
/-- the head of an own slice -/
theorem own_cut (h : w.ownsRow base e 1 (.slice A n c) n (xs.flatMap feC)) (hm : m ≤ n) : w.ownsRow base e 1 (.slice A m c) m ((xs.take m).flatMap feC) := by
  have hl := h.1
  rw [fl_length] at hl
  refine ⟨by rw [fl_length, List.length_take]; omega, ?_⟩
  rcases h.2 with ⟨h1, h2⟩ | ⟨g, cap, cur, h1, hb, hg, hc, hmx, hs, ht⟩
  · simp only [Value.slice.injEq] at h1
    obtain ⟨rfl, h3, rfl⟩ := h1
    obtain rfl : m = 0 := by omega
    exact .inl ⟨rfl, rfl⟩
  · simp only [Value.slice.injEq] at h1
    obtain ⟨rfl, _, rfl⟩ := h1
    refine .inr ⟨g, c, cur, rfl, hb, hg, by omega, hmx, hs, ?_⟩
    rw [← fl_take, ← ht, List.take_take]
    congr 1
    omega
end
end Go.Proofs.Ytkefijogpiofbaa.K

namespace Go.Proofs.Ytkefijogpiofbaa
set_option linter.unusedVariables false
set_option linter.unusedSimpArgs false
set_option linter.unusedSectionVars false
set_option maxRecDepth 8000
open Go.RowKit Go.Proofs.Ytkefijogpiofbaa.K
attribute [local irreducible] wpList wpQuiet
set_option maxRecDepth 100000 in
set_option maxHeartbeats 8000000 in
theorem trimmed_any (A : Option Addr) (n c : Nat) (xs : List Gold.F) (w : World) (hX : Sg feC 1 w A n c xs) :
    Calls Try.prog 70 #[.slice A n c] w fun e w' => e = .returned (.slice A (Gold.trimF xs).length c) ∧ Below w.heap.size w w' := by
  have HX := Lib.hid hX
  have hnl := hX.len
  have hcap := hX.cap
  have htop := hX.top
  clear hX
  go_enter Try.func70, Try.ntmps70
  go_upto_region 1 with fail
  refine wp_region_lit ?_
  refine wpList_run (by kernel_rfl) (.slice A n c) w rfl ?_
  simp only [Act.put, List.setIfInBounds_toArray, List.set_cons_zero, List.set_cons_succ]
  refine wpList_run (by kernel_rfl) (.int .i64 (n : Int)) w (xo_len A n c Try.underlying22 rfl rfl) ?_
  simp only [Act.put, List.setIfInBounds_toArray, List.set_cons_zero, List.set_cons_succ]
  refine wpList_run (by kernel_rfl) (.int .i64 (n : Int)) w rfl ?_
  simp only [Act.put, List.setIfInBounds_toArray, List.set_cons_zero, List.set_cons_succ]
  refine wpList_nil ?_
  have B0 := Lib.hid (Below.refl w.heap.size w)
  go_wp2_with fail
  go_loopw [3] (fun v wr => ∃ k : Nat, k ≤ n ∧ v = .int .i64 k ∧ Gold.trimN xs k = Gold.trimN xs n ∧ Below w.heap.size w wr) (fun v _ => (intOf v).toNat)
  case atStart => exact ⟨n, Nat.le_refl _, rfl, rfl, Below.refl _ _⟩
  case round =>
    obtain ⟨wo, rfl⟩ : ∃ wo : World, wo = wr := ⟨_, rfl⟩
    obtain ⟨k, hk, rfl, ht, hb0⟩ := hrel
    have HT := Lib.hid ht
    have hbr := hb0
    clear B0
    have B0 := Lib.hid hbr
    clear hbr
    clear hb0 ht
    cases k with
    | zero =>
      have hci1 : ¬ (0 > 0) := by omega
      have hl : (Gold.trimF xs).length = 0 := by rw [Gold.trimF_length, hnl, ← HT.out]; rfl
      go_upto_region 2 with fail
      refine wp_region_lit ?_
      refine wpList_run (by kernel_rfl) (.int .i64 0) wo rfl ?_
      simp only [Act.put, List.setIfInBounds_toArray, List.set_cons_zero, List.set_cons_succ]
      refine wpList_run (by kernel_rfl) (.bool false) wo (xo_gtrF .i64 0 0 (by omega) rfl rfl rfl) ?_
      simp only [Act.put, List.setIfInBounds_toArray, List.set_cons_zero, List.set_cons_succ]
      refine wpList_run (by kernel_rfl) (.bool false) wo rfl ?_
      simp only [Act.put, List.setIfInBounds_toArray, List.set_cons_zero, List.set_cons_succ]
      refine wpList_skip (by kernel_rfl) ?_
      try simp only [Act.put, List.setIfInBounds_toArray, List.set_cons_zero, List.set_cons_succ]
      refine wpList_skip (by kernel_rfl) ?_
      try simp only [Act.put, List.setIfInBounds_toArray, List.set_cons_zero, List.set_cons_succ]
      refine wpList_skip (by kernel_rfl) ?_
      try simp only [Act.put, List.setIfInBounds_toArray, List.set_cons_zero, List.set_cons_succ]
      refine wpList_skip (by kernel_rfl) ?_
      try simp only [Act.put, List.setIfInBounds_toArray, List.set_cons_zero, List.set_cons_succ]
      refine wpList_skip (by kernel_rfl) ?_
      try simp only [Act.put, List.setIfInBounds_toArray, List.set_cons_zero, List.set_cons_succ]
      refine wpList_skip (by kernel_rfl) ?_
      try simp only [Act.put, List.setIfInBounds_toArray, List.set_cons_zero, List.set_cons_succ]
      refine wpList_run (by kernel_rfl) (.bool false) wo rfl ?_
      simp only [Act.put, List.setIfInBounds_toArray, List.set_cons_zero, List.set_cons_succ]
      refine wpList_nil ?_
      go_upto_region 4 with fail
      refine wp_region_lit ?_
      refine wpList_run (by kernel_rfl) (.slice A n c) wo rfl ?_
      simp only [Act.put, List.setIfInBounds_toArray, List.set_cons_zero, List.set_cons_succ]
      refine wpList_run (by kernel_rfl) (.int .i64 0) wo rfl ?_
      simp only [Act.put, List.setIfInBounds_toArray, List.set_cons_zero, List.set_cons_succ]
      refine wpList_run (by kernel_rfl) (.slice A 0 c) wo (xo_take .i64 A n c 0 (by omega) Try.underlying22 (by kernel_rfl) rfl rfl rfl) ?_
      simp only [Act.put, List.setIfInBounds_toArray, List.set_cons_zero, List.set_cons_succ]
      refine wpList_run (by kernel_rfl) (.slice A 0 c) wo rfl ?_
      simp only [Act.put, List.setIfInBounds_toArray, List.set_cons_zero, List.set_cons_succ]
      refine wpList_nil ?_
      go_wp2_with fail
      go_ret
      exact ⟨by rw [hl]; rfl, B0.out⟩
    | succ j =>
      have hci1 : (((j + 1 : Nat) : Int) > 0) := by omega
      obtain ⟨x, hx⟩ : ∃ x, xs[j]? = some x := ⟨_, List.getElem?_eq_getElem (by omega)⟩
      have hcf := Gold.cfF_some hx
      have HXX := Lib.hid hx
      clear hx
      by_cases hz : x = 0
      · have hvz : Gold.vF x = 0 := by rw [hz]; rfl
        have HT2 := Lib.hid (show Gold.trimN xs j = Gold.trimN xs n by rw [← HT.out]; show _ = if Gold.cfF xs j = 0 then _ else _; rw [if_pos (by rw [hcf]; exact hz)])
        clear hz hcf
        go_upto_region 2 with fail
        refine wp_region_lit ?_
        refine wpList_run (by kernel_rfl) (.int .i64 ((j + 1 : Nat) : Int)) wo rfl ?_
        simp only [Act.put, List.setIfInBounds_toArray, List.set_cons_zero, List.set_cons_succ]
        refine wpList_run (by kernel_rfl) (.bool true) wo (xo_gtrT .i64 ((j + 1 : Nat) : Int) 0 (by omega) rfl rfl rfl) ?_
        simp only [Act.put, List.setIfInBounds_toArray, List.set_cons_zero, List.set_cons_succ]
        refine wpList_run (by kernel_rfl) (.bool true) wo rfl ?_
        simp only [Act.put, List.setIfInBounds_toArray, List.set_cons_zero, List.set_cons_succ]
        refine wpList_run (by kernel_rfl) (.slice A n c) wo rfl ?_
        simp only [Act.put, List.setIfInBounds_toArray, List.set_cons_zero, List.set_cons_succ]
        refine wpList_run (by kernel_rfl) (.int .i64 ((j + 1 : Nat) : Int)) wo rfl ?_
        simp only [Act.put, List.setIfInBounds_toArray, List.set_cons_zero, List.set_cons_succ]
        refine wpList_run (by kernel_rfl) (.int .i64 (j : Int)) wo (xo_subI ((j + 1 : Nat) : Int) 1 (j : Int) (by omega) (by omega) (by omega) rfl rfl rfl) ?_
        simp only [Act.put, List.setIfInBounds_toArray, List.set_cons_zero, List.set_cons_succ]
        refine wpList_run (by kernel_rfl) (.pointer (some (gad A (j * 1)))) wo (xg_idx .i64 (HX.out.keep B0.out) HXX.out Try.underlying22 (by kernel_rfl) rfl rfl rfl) ?_
        simp only [Act.put, List.setIfInBounds_toArray, List.set_cons_zero, List.set_cons_succ]
        refine wpList_run (by kernel_rfl) (.int .u64 (Gold.vF x)) wo (xg_load1 (E := feC) (i := j) (j := 0) (HX.out.keep B0.out) HXX.out rfl rfl Try.underlying29 rfl rfl rfl) ?_
        simp only [Act.put, List.setIfInBounds_toArray, List.set_cons_zero, List.set_cons_succ]
        refine wpList_run (by kernel_rfl) (.bool true) wo (xo_eqlT .u64 (Gold.vF x) 0 hvz rfl rfl rfl) ?_
        simp only [Act.put, List.setIfInBounds_toArray, List.set_cons_zero, List.set_cons_succ]
        refine wpList_run (by kernel_rfl) (.bool true) wo rfl ?_
        simp only [Act.put, List.setIfInBounds_toArray, List.set_cons_zero, List.set_cons_succ]
        refine wpList_nil ?_
        go_upto_region 3 with fail
        refine wp_region_lit ?_
        refine wpList_run (by kernel_rfl) (.int .i64 ((j + 1 : Nat) : Int)) wo rfl ?_
        simp only [Act.put, List.setIfInBounds_toArray, List.set_cons_zero, List.set_cons_succ]
        refine wpList_run (by kernel_rfl) (.int .i64 (j : Int)) wo (xo_subI ((j + 1 : Nat) : Int) 1 (j : Int) (by omega) (by omega) (by omega) rfl rfl rfl) ?_
        simp only [Act.put, List.setIfInBounds_toArray, List.set_cons_zero, List.set_cons_succ]
        refine wpList_run (by kernel_rfl) (.int .i64 (j : Int)) wo rfl ?_
        simp only [Act.put, List.setIfInBounds_toArray, List.set_cons_zero, List.set_cons_succ]
        refine wpList_nil ?_
        have hbz := B0.out
        go_wp2_with fail
        go_roundw
        case rel => exact ⟨j, by omega, by go_num, HT2.out, hbz⟩
        case measure => first | (simp [intOf]; done) | (simp [intOf]; omega)
      · have hvz : ¬ Gold.vF x = 0 := fun h => hz (Gold.vF_inj h)
        have hl : (Gold.trimF xs).length = j + 1 := by rw [Gold.trimF_length, hnl, ← HT.out]; show (if Gold.cfF xs j = 0 then _ else _) = _; rw [if_neg (by rw [hcf]; exact hz)]
        clear hz hcf
        go_upto_region 2 with fail
        refine wp_region_lit ?_
        refine wpList_run (by kernel_rfl) (.int .i64 ((j + 1 : Nat) : Int)) wo rfl ?_
        simp only [Act.put, List.setIfInBounds_toArray, List.set_cons_zero, List.set_cons_succ]
        refine wpList_run (by kernel_rfl) (.bool true) wo (xo_gtrT .i64 ((j + 1 : Nat) : Int) 0 (by omega) rfl rfl rfl) ?_
        simp only [Act.put, List.setIfInBounds_toArray, List.set_cons_zero, List.set_cons_succ]
        refine wpList_run (by kernel_rfl) (.bool true) wo rfl ?_
        simp only [Act.put, List.setIfInBounds_toArray, List.set_cons_zero, List.set_cons_succ]
        refine wpList_run (by kernel_rfl) (.slice A n c) wo rfl ?_
        simp only [Act.put, List.setIfInBounds_toArray, List.set_cons_zero, List.set_cons_succ]
        refine wpList_run (by kernel_rfl) (.int .i64 ((j + 1 : Nat) : Int)) wo rfl ?_
        simp only [Act.put, List.setIfInBounds_toArray, List.set_cons_zero, List.set_cons_succ]
        refine wpList_run (by kernel_rfl) (.int .i64 (j : Int)) wo (xo_subI ((j + 1 : Nat) : Int) 1 (j : Int) (by omega) (by omega) (by omega) rfl rfl rfl) ?_
        simp only [Act.put, List.setIfInBounds_toArray, List.set_cons_zero, List.set_cons_succ]
        refine wpList_run (by kernel_rfl) (.pointer (some (gad A (j * 1)))) wo (xg_idx .i64 (HX.out.keep B0.out) HXX.out Try.underlying22 (by kernel_rfl) rfl rfl rfl) ?_
        simp only [Act.put, List.setIfInBounds_toArray, List.set_cons_zero, List.set_cons_succ]
        refine wpList_run (by kernel_rfl) (.int .u64 (Gold.vF x)) wo (xg_load1 (E := feC) (i := j) (j := 0) (HX.out.keep B0.out) HXX.out rfl rfl Try.underlying29 rfl rfl rfl) ?_
        simp only [Act.put, List.setIfInBounds_toArray, List.set_cons_zero, List.set_cons_succ]
        refine wpList_run (by kernel_rfl) (.bool false) wo (xo_eqlF .u64 (Gold.vF x) 0 hvz rfl rfl rfl) ?_
        simp only [Act.put, List.setIfInBounds_toArray, List.set_cons_zero, List.set_cons_succ]
        refine wpList_run (by kernel_rfl) (.bool false) wo rfl ?_
        simp only [Act.put, List.setIfInBounds_toArray, List.set_cons_zero, List.set_cons_succ]
        refine wpList_nil ?_
        go_upto_region 4 with fail
        refine wp_region_lit ?_
        refine wpList_run (by kernel_rfl) (.slice A n c) wo rfl ?_
        simp only [Act.put, List.setIfInBounds_toArray, List.set_cons_zero, List.set_cons_succ]
        refine wpList_run (by kernel_rfl) (.int .i64 ((j + 1 : Nat) : Int)) wo rfl ?_
        simp only [Act.put, List.setIfInBounds_toArray, List.set_cons_zero, List.set_cons_succ]
        refine wpList_run (by kernel_rfl) (.slice A (j + 1) c) wo (xo_take .i64 A n c (j + 1) (by omega) Try.underlying22 (by kernel_rfl) rfl rfl rfl) ?_
        simp only [Act.put, List.setIfInBounds_toArray, List.set_cons_zero, List.set_cons_succ]
        refine wpList_run (by kernel_rfl) (.slice A (j + 1) c) wo rfl ?_
        simp only [Act.put, List.setIfInBounds_toArray, List.set_cons_zero, List.set_cons_succ]
        refine wpList_nil ?_
        go_wp2_with fail
        go_ret
        exact ⟨by rw [hl]; rfl, B0.out⟩
end Go.Proofs.Ytkefijogpiofbaa

namespace Go.Proofs.Ytkefijogpiofbaa.K
set_option linter.unusedVariables false
set_option linter.unusedSimpArgs false
set_option linter.unusedSectionVars false
set_option maxRecDepth 8000
open Go.RowKit
theorem zeroCells_list (z : Value) (m : Nat) : (Builtin.zeroCells #[z] m).toList = List.replicate m z := by
  apply List.ext_getElem?
  intro j
  simp only [Builtin.zeroCells, List.size_toArray, List.length_cons, List.length_nil, Nat.mul_one, Array.toList_map, Array.toList_range, List.getElem?_map, List.getElem?_range, List.getElem?_replicate]
  by_cases h : j < m <;> simp [h, Nat.mod_one]
section
variable {P : Program} {w : World} {base n : Nat} {t ti ty e : TypeId} {i : TypeInfo} {k : IntKind} {z v : Value} {xs : List Value}
theorem run_append_zeros (ht : P.underlying t = some (.slice e)) (hti : P.underlying ti = some (.int k)) (hi : P.info? e = some i) (hz : i.zero = some z) (hsize : i.size = 1) (hby : i.bytes = 8) (hzc : z.cells = #[z]) (h1 : z.oneCell' = true)
    (hown : w.ownsRow base e 1 v n xs) (m : Nat) (hm0 : 0 < m) (hm : n + m ≤ 1048576) (hbase : base ≤ w.heap.size) :
    ∃ v' w', (Builtin.append_ #[t, ti] ty #[v, .int .i64 (m : Int)]).run P w = .ok v' w' ∧ w'.ownsRow base e 1 v' (n + m) (xs ++ List.replicate m z) ∧ w.grownBy w' v.ownBlock ∧ (∀ q, v'.ownBlock = some q → v.ownBlock = some q ∨ w.heap.size ≤ q) := by
  have hxl : xs.length = n := by have := hown.1; omega
  have hwr : IntKind.i64.wrap (m : Int) = (m : Int) := wrapI (by omega) (by omega)
  have hneg : ¬ ((m : Int) < 0) := by omega
  have hbig : ¬ (281474976710656 < (m : Int) * 8) := by omega
  have hm1 : ¬ m = 0 := by omega
  have hlen : (xs ++ List.replicate m z).length = (n + m) * 1 := by rw [List.length_append, List.length_replicate]; omega
  rcases hown.2 with ⟨rfl, rfl⟩ | ⟨g, cap, cur, rfl, hbg, hg, hnc, hcm, hcs, htake⟩
  · have hx : xs = [] := List.eq_nil_of_length_eq_zero (by omega)
    subst hx
    have h48 : ¬ (281474976710656 < Builtin.nextslicecap m 0 * 8) := by rw [nextslicecap_zero hm0]; omega
    have hr : (Builtin.append_ #[t, ti] ty #[.slice none 0 0, .int .i64 (m : Int)]).run P w = .ok (.slice (some ⟨w.heap.size, 0, none⟩) m (grownCap w m 0 e)) (w.drew.alloc (.cells (Builtin.zeroCells #[z] m ++ Builtin.zeroCells #[z] (grownCap w m 0 e - m)) e)) := by
      have h63 : ¬ (9223372036854775807 < (m : Int)) := by omega
      simp [Builtin.append_, run_underlying ht, run_underlying hti, sizeOf, typeInfo, zeroValue, hi, hz, hsize, hby, hzc, hwr, asInt, asIntOf, hneg, hbig, hm1, h63, h48, Question.forced, run_firstCells_none, newRow, grownCap]
    have hcap := grownCap_ge w m 0 e
    refine ⟨_, _, hr, ⟨hlen, .inr ⟨w.heap.size, _, _, by rw [Nat.zero_add], hbase, heap_alloc_new w.drew _, by omega, grownCap_le_maxLen w m 0 e (by unfold maxLen; omega), ?_, ?_⟩⟩, ⟨rfl, rfl, rfl, by simp, fun q hq _ => (Below.heap_alloc w.drew _ q hq)⟩, fun q hq => .inr ?_⟩
    · rw [Array.size_append, size_zeroCells, size_zeroCells]
      show m * 1 + (grownCap w m 0 e - m) * 1 = grownCap w m 0 e * 1
      omega
    · rw [Array.toList_append, zeroCells_list, List.nil_append, show (0 + m) * 1 = (List.replicate m z).length by rw [List.length_replicate]; omega]
      exact List.take_left
    · simp only [Value.ownBlock, Option.some.injEq] at hq
      omega
  · by_cases hroom : n + m ≤ cap
    · have hst := run_storeCells_at P g (n * 1) e (List.replicate m z) 0 cur w hg (by rw [List.length_replicate]; omega) (fun u hu => by rw [(List.mem_replicate.1 hu).2]; exact h1)
      simp only [Nat.add_zero] at hst
      have hr : (Builtin.append_ #[t, ti] ty #[.slice (some ⟨g, 0, none⟩) n cap, .int .i64 (m : Int)]).run P w = .ok (.slice (some ⟨g, 0, none⟩) (n + m) cap) (w.setRow g (cur.toList.take (n * 1) ++ List.replicate m z ++ cur.toList.drop (n * 1 + (List.replicate m z).length)).toArray) := by
        simp [Builtin.append_, run_underlying ht, run_underlying hti, sizeOf, typeInfo, zeroValue, hi, hz, hsize, hby, hzc, hwr, asInt, asIntOf, hneg, hbig, hm1, hroom, Addr.add_lit, zeroCells_list]
        simp at hst
        rw [hst]
        rfl
      refine ⟨_, _, hr, ⟨hlen, .inr ⟨g, cap, _, rfl, hbg, setRow_heap w g cur _ e _ hg, hroom, hcm, ?_, ?_⟩⟩, ⟨rfl, rfl, rfl, by simp, fun q _ hq => setRow_other w g q _ (fun e => hq (by simp [Value.ownBlock, e]))⟩, fun q hq => .inl hq⟩
      · simp only [List.size_toArray, List.length_append, List.length_take, List.length_drop, Array.length_toList, List.length_replicate]
        omega
      · rw [htake, ← hlen]
        exact List.take_left
    · have h48 : ¬ (281474976710656 < Builtin.nextslicecap (n + m) cap * 8) := by
        have := growslice_fits (need := n + m) (old := cap) (bytes := 8) (by omega) (by omega)
        omega
      have holds : ∀ j u, xs[j]? = some u → w.cell? ((⟨g, 0, none⟩ : Addr).add j) = some u := hown.cells (g := g) rfl
      have hfo := run_firstCells_some (P := P) w.drew 1 n ⟨g, 0, none⟩ n cap xs (by omega) (by simpa using holds)
      have hr : (Builtin.append_ #[t, ti] ty #[.slice (some ⟨g, 0, none⟩) n cap, .int .i64 (m : Int)]).run P w = .ok (.slice (some ⟨w.heap.size, 0, none⟩) (n + m) (grownCap w (n + m) cap e)) (w.drew.alloc (.cells (xs.toArray ++ Builtin.zeroCells #[z] m ++ Builtin.zeroCells #[z] (grownCap w (n + m) cap e - (n + m))) e)) := by
        have h63 : ¬ (9223372036854775807 < (n : Int) + (m : Int)) := by omega
        simp [Builtin.append_, run_underlying ht, run_underlying hti, sizeOf, typeInfo, zeroValue, hi, hz, hsize, hby, hzc, hwr, asInt, asIntOf, hneg, hbig, hm1, hroom, h63, h48, Question.forced, hfo, newRow, grownCap]
      have hcap := grownCap_ge w (n + m) cap e
      refine ⟨_, _, hr, ⟨hlen, .inr ⟨w.heap.size, _, _, rfl, hbase, heap_alloc_new w.drew _, by omega, grownCap_le_maxLen w (n + m) cap e (by unfold maxLen; omega), ?_, ?_⟩⟩, ⟨rfl, rfl, rfl, by simp, fun q hq _ => (Below.heap_alloc w.drew _ q hq)⟩, fun q hq => .inr ?_⟩
      · rw [Array.size_append, Array.size_append, size_zeroCells, size_zeroCells]
        show xs.toArray.size + m * 1 + (grownCap w (n + m) cap e - (n + m)) * 1 = grownCap w (n + m) cap e * 1
        rw [List.size_toArray]
        omega
      · rw [Array.toList_append, Array.toList_append, zeroCells_list, ← hlen]
        exact List.take_left
      · simp only [Value.ownBlock, Option.some.injEq] at hq
        omega
end
end Go.Proofs.Ytkefijogpiofbaa.K

