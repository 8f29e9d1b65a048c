/- Contracts of package poly: interpolation, of at most 20 values. -/
import Derived.Test.YtjimnoikkgheaaaPolD
import Derived.Test.YtjimnoikkgheaaaPolH
import Derived.Test.YtjimnoikkgheaaaApp
namespace Go.Proofs.Ytjimnoikkgheaaa
open Go.RowKit Gold

/-- what is known of the two polynomials -/
structure Cmb (xs : List E2) (f n : Nat) (S L : List E2) : Prop where
  trim : trimE S = S
  short : S.length ≤ n
  long : L.length ≤ n + 1
  sum : ∀ x, evE S x = lagAt xs f n x
  all : ∀ x, evE L x = prodAt f n x
theorem Cmb.one (u : E2) (f : Nat) : Cmb [u] f 1 (trimE [u]) [-nd f, E2.one] :=
  ⟨trimE_trimE _, trimE_length _, Nat.le_refl _, fun x => by rw [evE_trimE, evE_cons, evE_nil, E2.mul_zero, E2.add_zero, lagAt, lagAt, prodAt, E2.zero_mul, E2.zero_add, E2.one_mul]; rfl, fun x => by rw [evE_linear, prodAt, prodAt, E2.one_mul, Nat.add_zero]⟩
theorem Cmb.two {xs S1 L1 S2 L2 : List E2} {f h m : Nat} (h1 : Cmb (xs.take h) f h S1 L1) (h2 : Cmb (xs.drop h) (f + h) m S2 L2) :
    Cmb xs f (h + m) (addE (mulE (trimE S1) (trimE L2)) (mulE (trimE L1) (trimE S2))) (mulE (trimE L1) (trimE L2)) := by
  have a1 := h1.short
  have a2 := h2.short
  have a3 := h1.long
  have a4 := h2.long
  have b1 := trimE_length S1
  have b2 := trimE_length S2
  have b3 := trimE_length L1
  have b4 := trimE_length L2
  have c1 := mulE_length' (xs := trimE S1) (ys := trimE L2)
  have c2 := mulE_length' (xs := trimE L1) (ys := trimE S2)
  have c3 := mulE_length' (xs := trimE L1) (ys := trimE L2)
  have c4 := addE_length (mulE (trimE S1) (trimE L2)) (mulE (trimE L1) (trimE S2))
  refine ⟨addE_trim _ _, by omega, by omega, fun x => ?_, fun x => ?_⟩
  · rw [evE_addE, evE_mulE, evE_mulE, evE_trimE, evE_trimE, evE_trimE, evE_trimE, h1.sum, h2.all, h1.all, h2.sum, lag_split, lag_congr f x h (fun i hi => cfE_take (c := xs) hi)]
  · rw [evE_mulE, evE_trimE, evE_trimE, h1.all, h2.all, prod_split]

set_option maxHeartbeats 2000000 in
theorem combine_any (N : Nat) : ∀ (A : Option Addr) (n c : Nat) (xs : List E2) (f : Nat) (w : World), n ≤ N → 1 ≤ n → n ≤ 20 → f + n ≤ 65536 → Sl w A n c xs →
    Calls Try.prog 60 #[.slice A n c, .int .i64 f] w fun e w' => ∃ A1 m1 c1 A2 m2 c2 S L, e = .returned (.tuple #[.slice A1 m1 c1, .slice A2 m2 c2]) ∧ Sl w' A1 m1 c1 S ∧ Sl w' A2 m2 c2 L ∧ Cmb xs f n S L ∧ Below w.heap.size w w' := by
  induction N with
  | zero =>
    intro A n c xs f w h1 h2
    omega
  | succ N ih =>
    intro A n c xs f w hN hn1 hn hf h
    have hnc := h.cap
    have hct := h.top
    by_cases h1 : n = 1
    · subst h1
      obtain ⟨u, rfl⟩ : ∃ u, xs = [u] := List.length_eq_one_iff.1 h.len.symm
      have HS := Lib.hid h
      clear h ih
      go_enter Try.func60, Try.ntmps60
      go_wp2_with fail
      refine (polyTrim_any A 1 c [u] _ HS.out (by omega)).mono ?_
      rintro e W1 ⟨A1, m1, c1, rfl, hm1, hs, hb⟩
      have HS1 := Lib.hid hs
      have HB1 := Lib.hid hb
      clear hs hb
      go_wp2_with fail
      refine (node_any (f : Int) _ (by omega) (by omega)).mono ?_
      rintro e W2 ⟨rfl, hb⟩
      have HS2 := Lib.hid (HS1.out.keep hb)
      have HB2 := Lib.hid (below_step HB1.out hb)
      clear hb
      go_wp2_with fail
      refine (extNeg_any (nd f) _).mono ?_
      rintro e W3 ⟨rfl, hb⟩
      have HS3 := Lib.hid (HS2.out.keep hb)
      have HB3 := Lib.hid (below_step HB2.out hb)
      clear hb
      go_wp2_with fail
      refine (polyOne_any _).mono ?_
      rintro e W4 ⟨rfl, hb⟩
      have HS4 := Lib.hid (HS3.out.keep hb)
      have HB4 := Lib.hid (below_step HB3.out hb)
      clear hb
      go_wp2_with fail
      go_ret2
      exact ⟨A1, m1, c1, _, 2, 2, trimE [u], [-nd f, E2.one], rfl, HS4.out.keep ((Below.refl _ _).alloc (Nat.le_refl _) _), (pair_row W4 (-nd f) E2.one).slc rfl (Nat.le_refl _) (by omega), Cmb.one u f, HB4.out.alloc HB4.out.size _⟩
    · have HS := Lib.hid h
      have h1' : ((n : Int) == 1) = false := by rw [beq_eq_false_iff_ne]; omega
      have HI := Lib.hid ih
      have hch : c ≠ n / 2 := by omega
      have hk0 : 1 ≤ n / 2 := by omega
      have hk1 : n / 2 ≤ n := by omega
      have HK0 := Lib.hid hk0
      clear h ih hk0
      go_enter Try.func60, Try.ntmps60
      go_wp2_with fail
      refine (HI.out A (n / 2) c (xs.take (n / 2)) f _ (by omega) HK0.out (by omega) (by omega) (HS.out.take hk1)).mono ?_
      rintro e W1 ⟨A1, m1, c1, A2, m2, c2, S1, L1, rfl, hs1, hl1, hc1, hb⟩
      have HS1 := Lib.hid hs1
      have HL1 := Lib.hid hl1
      have HC1 := Lib.hid hc1
      have HB1 := Lib.hid hb
      clear hs1 hl1 hc1 hb
      have hI2 := HI.out (if c = n / 2 then A else A.map (·.add (n / 2 * 2))) (n - n / 2) (c - n / 2) (xs.drop (n / 2)) (f + n / 2) W1 (by have := HK0.out; omega) (by have := h1; omega) (by omega) (by omega) ((HS.out.drop hk1).keep HB1.out)
      rw [show ((f + n / 2 : Nat) : Int) = (f : Int) + (n : Int) / 2 by omega, if_neg hch] at hI2
      have HI2 := Lib.hid hI2
      clear hI2
      go_wp2_with fail
      refine HI2.out.mono ?_
      rintro e W2 ⟨A3, m3, c3, A4, m4, c4, S2, L2, rfl, hs2, hl2, hc2, hb⟩
      have b1 : m1 ≤ n / 2 := by have := HS1.out.len; have := HC1.out.short; omega
      have b2 : m2 ≤ n / 2 + 1 := by have := HL1.out.len; have := HC1.out.long; omega
      have b3 : m3 ≤ n - n / 2 := by have := hs2.len; have := hc2.short; omega
      have b4 : m4 ≤ n - n / 2 + 1 := by have := hl2.len; have := hc2.long; omega
      have HA1 := Lib.hid (HS1.out.keep hb)
      have HA2 := Lib.hid (HL1.out.keep hb)
      have HA3 := Lib.hid hs2
      have HA4 := Lib.hid hl2
      have HC2 := Lib.hid hc2
      have HB2 := Lib.hid (below_step HB1.out hb)
      clear hs2 hl2 hc2 hb
      go_wp2_with fail
      refine (polyMul_any A1 m1 c1 S1 A4 m4 c4 L2 _ HA1.out HA4.out (by omega) (by omega)).mono ?_
      rintro e W3 ⟨A5, m5, c5, rfl, hm5, hs, hb⟩
      have HM1 := Lib.hid hs
      have HB3 := Lib.hid (below_step HB2.out hb)
      have HA2' := Lib.hid (HA2.out.keep hb)
      have HA3' := Lib.hid (HA3.out.keep hb)
      have HA4' := Lib.hid (HA4.out.keep hb)
      clear hs hb
      go_wp2_with fail
      refine (polyMul_any A2 m2 c2 L1 A3 m3 c3 S2 _ HA2'.out HA3'.out (by omega) (by omega)).mono ?_
      rintro e W4 ⟨A6, m6, c6, rfl, hm6, hs, hb⟩
      have HM2 := Lib.hid hs
      have HM1' := Lib.hid (HM1.out.keep hb)
      have HB4 := Lib.hid (below_step HB3.out hb)
      have HA2'' := Lib.hid (HA2'.out.keep hb)
      have HA4'' := Lib.hid (HA4'.out.keep hb)
      clear hs hb
      go_wp2_with fail
      refine (polyAdd_any A5 m5 c5 _ A6 m6 c6 _ _ HM1'.out HM2.out (by omega) (by omega)).mono ?_
      rintro e W5 ⟨A7, m7, c7, rfl, hm7, hs, hb⟩
      have HS5 := Lib.hid hs
      have HB5 := Lib.hid (below_step HB4.out hb)
      have HA2a := Lib.hid (HA2''.out.keep hb)
      have HA4a := Lib.hid (HA4''.out.keep hb)
      clear hs hb
      go_wp2_with fail
      refine (polyMul_any A2 m2 c2 L1 A4 m4 c4 L2 _ HA2a.out HA4a.out (by omega) (by omega)).mono ?_
      rintro e W6 ⟨A8, m8, c8, rfl, hm8, hs, hb⟩
      have HL6 := Lib.hid hs
      have HS6 := Lib.hid (HS5.out.keep hb)
      have HB6 := Lib.hid (below_step HB5.out hb)
      clear hs hb
      go_wp2_with fail
      go_ret2
      exact ⟨A7, m7, c7, A8, m8, c8, _, _, rfl, HS6.out, HL6.out, by have := Cmb.two HC1.out HC2.out; rw [show n / 2 + (n - n / 2) = n by omega] at this; exact this, HB6.out⟩

set_option maxHeartbeats 1000000 in
theorem polyInterp_any (A : Option Addr) (n c : Nat) (v : List E2) (w : World) (h : Sl w A n c v) (hn : n ≤ 20) :
    Calls Try.prog 33 #[.slice A n c] w fun e w' => ∃ A' m c', e = .returned (.slice A' m c') ∧ m ≤ n ∧ Sl w' A' m c' (interpE v) ∧ Below w.heap.size w w' := by
  by_cases h0 : n = 0
  · subst h0
    obtain rfl : v = [] := List.eq_nil_of_length_eq_zero h.len.symm
    clear h
    go_enter Try.func33, Try.ntmps33
    go_wp2_with fail
    go_ret
    exact ⟨none, 0, 0, rfl, Nat.le_refl _, Sl.nil _, Below.refl _ _⟩
  · have HL := Lib.hid h.len
    have HS := Lib.hid h
    have h1 : ((n : Int) == 0) = false := by rw [beq_eq_false_iff_ne]; omega
    clear h
    go_enter Try.func33, Try.ntmps33
    go_wp2_with fail
    refine (weighted_any A n c v _ HS.out (by omega)).mono ?_
    rintro e W1 ⟨g, rfl, hr, hg, hb⟩
    have HR := Lib.hid hr
    have HB1 := Lib.hid hb
    clear hr hg hb
    go_wp2_with fail
    refine (combine_any n (some ⟨g, 0, none⟩) n n (wtsE v) 0 _ (Nat.le_refl _) (by omega) hn (by omega) (HR.out.slc (by unfold wtsE; rw [tabE_length, HL.out]) (Nat.le_refl _) (by omega))).mono ?_
    rintro e W2 ⟨A1, m1, c1, A2, m2, c2, S, L, rfl, hs, hl, hc, hb⟩
    have HSS := Lib.hid hs
    have HC := Lib.hid hc
    have HB2 := Lib.hid (below_step HB1.out hb)
    clear hs hl hc hb
    go_wp2_with fail
    go_ret
    have hm := HSS.out.len
    have hsh := HC.out.short
    have hvl := HL.out
    have hi : IsInterp v S := ⟨HC.out.trim, by omega, fun k hk => by rw [HC.out.sum, hvl]; exact wts_node hk (by omega)⟩
    exact ⟨A1, m1, c1, rfl, by omega, by rw [← hi.eq (by omega)]; exact HSS.out, HB2.out⟩

end Go.Proofs.Ytjimnoikkgheaaa
