/- Contracts of the reference of package mle: lengths and elements of tables, tables and points that are made; no conditions but lengths. Contracts of the reference of package mle: tables and points that are made out of arbitrary words; no conditions but lengths. -/
import Derived.Test.YtipbfonlcmegdaaMra
import Derived.Test.YtipbfonlcmegdaaMpd
import Derived.Deep.Cut
namespace Go.Proofs.Ytipbfonlcmegdaa
set_option maxRecDepth 8000
section
open Go.RowKit Gold

theorem wlt_yes {n k : Nat} (hk : k ≤ 62) (h : 2 ^ k < n) : decide (wrap64 (2 ^ k) < (n : Int)) = true := by rw [wrap_pow2 hk]; exact decide_eq_true (by omega)
theorem wlt_no {n k : Nat} (hk : k ≤ 62) (h : ¬ 2 ^ k < n) : decide (wrap64 (2 ^ k) < (n : Int)) = false := by rw [wrap_pow2 hk]; exact decide_eq_false (by omega)
theorem wne_no {n k : Nat} (hk : k ≤ 62) (h : n = 2 ^ k) : (wrap64 (2 ^ k) != (n : Int)) = false := by rw [wrap_pow2 hk, h]; simp
theorem wne_yes {n k : Nat} (hk : k ≤ 62) (h : n ≠ 2 ^ k) : (wrap64 (2 ^ k) != (n : Int)) = true := by rw [wrap_pow2 hk, bne_iff_ne]; exact fun e => h (Int.ofNat.inj e).symm

end

section
open Go.RowKit Gold

theorem own_not {w : World} {base n : Nat} {v : Value} {xs : List E2} (h : OwE w base v n xs) {b : Nat} (hb : w.heap.size ≤ b) : v.ownBlock ≠ some b := fun e => by
  have := (World.ownsRow.lt h _ e).2
  omega
set_option maxHeartbeats 2000000 in
theorem rMadeAll_any (A : Option Addr) (n c : Nat) (qs : List (Int × Int)) (q : Nat) (w : World) (h : Sr w A n c qs) (hw : Nums qs) (hq : q ≤ 62) :
    Calls Try.prog 58 #[.slice A n c, .int .i64 (q : Int)] w fun e w' => ∃ A' c' xs, e = .returned (.slice A' q c') ∧ OwE w' w.heap.size (.slice A' q c') q xs ∧ Below w.heap.size w w' := by
  have hcap := SlR.cap h
  have htop := SlR.top h
  have HS := Lib.hid h
  have HW := Lib.hid hw
  clear h hw
  go_enter Try.func58, Try.ntmps58
  go_wp2_with fail
  go_loopw [5, 6] (fun v s wr => ∃ (k : Nat) (xs : List E2), k ≤ q ∧ s = .int .i64 k ∧ OwE wr w.heap.size v k xs ∧ Below w.heap.size w wr) (fun _ s _ => q - (intOf s).toNat)
  case atStart => exact ⟨0, [], Nat.zero_le _, rfl, OwE.made w w.heap.size (Nat.le_refl _), (Below.refl _ _).alloc (Nat.le_refl _) _⟩
  case round =>
    obtain ⟨k, xs, hk, rfl, ho, hb⟩ := hrel
    have HO := Lib.hid ho
    have HB := Lib.hid hb
    clear ho hb
    by_cases hlt : k < q
    · have hk1 : (k : Int) < (q : Int) := by omega
      have hk0 : (0 : Int) ≤ (k : Int) := by omega
      by_cases hltn : k < n
      · obtain ⟨p, hp⟩ := HS.out.get hltn
        obtain ⟨ad, rfl, h0, h1⟩ := HS.out.at_ hp
        have hpw := HW.out p (List.mem_of_getElem? hp)
        have c0 := cell_alloc (cell_keep h0 HB.out) (.cells #[.int .u64 0, .int .u64 0] 27)
        have c1 := cell_alloc (cell_keep h1 HB.out) (.cells #[.int .u64 0, .int .u64 0] 27)
        clear hp h0 h1
        have hk2 : (k : Int) < (n : Int) := by omega
        go_wp2_with fail
        clear c0 c1
        refine calls_named1 (fun V hbV g0 hzV => ?_)
        have HT := Lib.hid (show Two V wr.heap.size 27 (.int .u64 0) (.int .u64 0) from g0)
        have HOV := Lib.hid (HO.out.keep hbV)
        have HBV := Lib.hid (below_step HB.out hbV)
        have hne := own_not HO.out (Nat.le_refl _)
        have hsz := HB.out.size
        clear g0 hbV
        refine (rMade_any p.1 p.2 _ hpw.1 hpw.2).mono ?_
        rintro e W1 ⟨rfl, hb⟩
        have HT1 := Lib.hid (HT.out.keep hb)
        have HO1 := Lib.hid (HOV.out.keep hb)
        have HB1 := Lib.hid (below_step HBV.out hb)
        clear hb hpw
        generalize toE p.1 p.2 = x
        have c0 := HT1.out.c0
        have c1 := HT1.out.c1
        have f0 := HT1.out.f0
        have f1 := HT1.out.f1
        go_upto_region 8 with fail
        refine wp_named (fun W5 => Two W5 wr.heap.size 27 (.int .u64 (vF x.A)) (.int .u64 (vF x.B)) ∧ OwE W5 w.heap.size _ k xs ∧ Below w.heap.size w W5)
          ⟨(HT1.out.set0 _).set1 _, ownsRow_setCell (ownsRow_setCell HO1.out _ hne) _ hne, (HB1.out.setCell hsz _).setCell hsz _⟩ ?_
        rintro W5 ⟨ht5, ho5, hb5⟩
        have HO5 := Lib.hid ho5
        have HB5 := Lib.hid hb5
        clear c0 c1 f0 f1 hb5
        have c0 := ht5.c0
        have c1 := ht5.c1
        clear ho5 ht5 HT1 HO1 HB1 HT HOV HBV
        go_wp2_with (at_builtin; refine wpList_appendE rfl (.tmp 24) (.tmp 26) rfl (w.heap.size) _ k _ rfl (HO5.out.keep ((Below.refl _ _).alloc (Nat.le_refl _) _)) W5.heap.size 1 x rfl (Two.new W5 _ _ _) (by omega) (by have := HB5.out.size; simp; omega) ?_; intro v1 w1 hown1 hg1; have HO2 := Lib.hid hown1; have HB2 := Lib.hid (below_grown (w0 := w) (HB5.out.alloc HB5.out.size _) hg1 (HO5.out.keep ((Below.refl _ _).alloc (Nat.le_refl _) _)) (Nat.le_refl _)); clear hown1 hg1)
        go_roundw
        case rel => exact ⟨k + 1, _, by omega, by go_num, HO2.out, HB2.out⟩
        case measure => simp [intOf]; omega
      · have hk2 : ¬ (k : Int) < (n : Int) := by omega
        go_upto_region 8 with fail
        refine wp_named1 (fun V hbV g0 hzV => ?_)
        have HO5 := Lib.hid (HO.out.keep hbV)
        have HB5 := Lib.hid (below_step HB.out hbV)
        have ht5 : Two V wr.heap.size 27 (.int .u64 (vF E2.zero.A)) (.int .u64 (vF E2.zero.B)) := g0
        have c0 := ht5.c0
        have c1 := ht5.c1
        clear g0 hbV ht5
        go_wp2_with (at_builtin; refine wpList_appendE rfl (.tmp 24) (.tmp 26) rfl (w.heap.size) _ k _ rfl (HO5.out.keep ((Below.refl _ _).alloc (Nat.le_refl _) _)) V.heap.size 1 E2.zero rfl (Two.new V _ _ _) (by omega) (by have := HB5.out.size; simp; omega) ?_; intro v1 w1 hown1 hg1; have HO2 := Lib.hid hown1; have HB2 := Lib.hid (below_grown (w0 := w) (HB5.out.alloc HB5.out.size _) hg1 (HO5.out.keep ((Below.refl _ _).alloc (Nat.le_refl _) _)) (Nat.le_refl _)); clear hown1 hg1)
        go_roundw
        case rel => exact ⟨k + 1, _, by omega, by go_num, HO2.out, HB2.out⟩
        case measure => simp [intOf]; omega
    · have hkn : k = q := by omega
      subst hkn
      obtain ⟨A1, c1, rfl, hs1⟩ := HO.out.sl
      clear hs1
      go_wp2_with fail
      go_ret
      exact ⟨A1, c1, xs, rfl, HO.out, HB.out⟩

set_option maxHeartbeats 2000000 in
theorem rTabMade_any (A : Option Addr) (n c : Nat) (qs : List (Int × Int)) (q : Nat) (w : World) (h : Sr w A n c qs) (hw : Nums qs) (hq : q ≤ 16) :
    Calls Try.prog 12 #[.slice A n c, .int .i64 (q : Int)] w fun e w' => ∃ A' N c' xs, e = .returned (.slice A' N c') ∧ N = 2 ^ q ∧ OwE w' w.heap.size (.slice A' N c') N xs ∧ Below w.heap.size w w' := by
  have hcap := SlR.cap h
  have htop := SlR.top h
  have HS := Lib.hid h
  have HW := Lib.hid hw
  clear h hw
  obtain ⟨N, hN⟩ : ∃ N, N = 2 ^ q := ⟨_, rfl⟩
  have hN1 : N ≤ 65536 := by rw [hN]; exact Nat.pow_le_pow_right (n := 2) (by omega) hq
  have hww : wrap64 (2 ^ q) = (N : Int) := by rw [hN]; exact wrap_pow2 (by omega)
  have HN := Lib.hid hN
  have HWW := Lib.hid hww
  clear hN hww
  go_enter Try.func12, Try.ntmps12
  go_wp2_with fail
  go_loopw [5, 6] (fun v s wr => ∃ (k : Nat) (xs : List E2), k ≤ N ∧ s = .int .i64 k ∧ OwE wr w.heap.size v k xs ∧ Below w.heap.size w wr) (fun _ s _ => N - (intOf s).toNat)
  case atStart => exact ⟨0, [], Nat.zero_le _, rfl, OwE.made w w.heap.size (Nat.le_refl _), (Below.refl _ _).alloc (Nat.le_refl _) _⟩
  case round =>
    obtain ⟨k, xs, hk, rfl, ho, hb⟩ := hrel
    have HO := Lib.hid ho
    have HB := Lib.hid hb
    clear ho hb
    have hww := HWW.out
    by_cases hlt : k < N
    · have hk1 : (k : Int) < (N : Int) := by omega
      have hk0 : (0 : Int) ≤ (k : Int) := by omega
      go_wp2_with fail
      refine (rFromInt_any (k : Int) _ (by omega) (by omega)).mono ?_
      rintro e W1 ⟨rfl, hb⟩
      have HO1 := Lib.hid (HO.out.keep hb)
      have HB1 := Lib.hid (below_step HB.out hb)
      clear hb
      generalize E2.ofF (toF (k : Int)) = x
      by_cases hltn : 0 < n
      · have hn0 : (0 : Int) < (n : Int) := by omega
        obtain ⟨p, hp⟩ := HS.out.get (i := k % n) (Nat.mod_lt _ hltn)
        obtain ⟨ad, rfl, h0, h1⟩ := HS.out.at_ hp
        have hpw := HW.out p (List.mem_of_getElem? hp)
        have HPW := Lib.hid hpw
        have h0' := cell_keep h0 HB1.out
        have h1' := cell_keep h1 HB1.out
        clear hp h0 h1 hpw
        go_upto_region 7 with fail
        refine wp_named1 (fun V hbV g0 hzV => ?_)
        have HT := Lib.hid (show Two V W1.heap.size 27 (.int .u64 (vF x.A)) (.int .u64 (vF x.B)) from g0)
        have HOV := Lib.hid (HO1.out.keep hbV)
        have HBV := Lib.hid (below_step HB1.out hbV)
        have hne := own_not HO1.out (Nat.le_refl _)
        have hsz := HB1.out.size
        have l0 := Later.cell (cell_keep h0' hbV)
        have l1 := Later.cell (cell_keep h1' hbV)
        clear g0 hbV h0' h1'
        have j1 : (k : Int) % (n : Int) < (n : Int) := Int.emod_lt_of_pos _ hn0
        have j0 : 0 ≤ (k : Int) % (n : Int) := Int.emod_nonneg _ (by omega)
        have j2 : ((k : Int) % (n : Int)).toNat = k % n := by omega
        have j3 : 0 ≤ (k : Int) / (n : Int) := Int.ediv_nonneg (by omega) (by omega)
        have j4 : (k : Int) / (n : Int) ≤ (k : Int) := Int.ediv_le_self _ (by omega)
        have j5 : ((n : Int) == 0) = false := by rw [beq_eq_false_iff_ne]; omega
        refine wp_later_tail 14 (by kernel_rfl) (by kernel_rfl) ?_
        simp only [List.take_succ_cons, List.take_zero, List.drop_succ_cons, List.drop_zero]
        repeat (go_big_quiet_step (first
          | (go_at_call 13; with_reducible exact Calls.later (rMade_any p.1 p.2 _ HPW.out.1 HPW.out.2))
          | (go_at_call 47; with_reducible exact Calls.later (rFromInt_any ((k : Int) / (n : Int)) _ (by omega) (by omega)))
          | (go_at_call 43; with_reducible exact Calls.later (rAdd_any (toE p.1 p.2) (E2.ofF (toF ((k : Int) / (n : Int)))) _))))
        refine wpQuiet_nil ?_
        intro X
        clear l0 l1
        have HT1 := Lib.hid (HT.out.keep X.below)
        have HO1' := Lib.hid (HOV.out.keep X.below)
        have HB1' := Lib.hid (below_step HBV.out X.below)
        generalize toE p.1 p.2 + E2.ofF (toF ((k : Int) / (n : Int))) = z
        have c0 := HT1.out.c0
        have c1 := HT1.out.c1
        have f0 := HT1.out.f0
        have f1 := HT1.out.f1
        go_upto_region 8 with fail
        refine wp_named (fun W5 => Two W5 W1.heap.size 27 (.int .u64 (vF z.A)) (.int .u64 (vF z.B)) ∧ OwE W5 w.heap.size _ k xs ∧ Below w.heap.size w W5)
          ⟨(HT1.out.set0 _).set1 _, ownsRow_setCell (ownsRow_setCell HO1'.out _ hne) _ hne, (HB1'.out.setCell hsz _).setCell hsz _⟩ ?_
        rintro W5 ⟨ht5, ho5, hb5⟩
        have HO5 := Lib.hid ho5
        have HB5 := Lib.hid hb5
        clear c0 c1 f0 f1 hb5 j0 j1 j2 j3 j4 j5
        have c0 := ht5.c0
        have c1 := ht5.c1
        clear ho5 ht5 HT1 HO1' HB1' HT HOV HBV HO1 HB1
        go_wp2_with (at_builtin; refine wpList_appendE rfl (.tmp 34) (.tmp 36) rfl (w.heap.size) _ k _ rfl (HO5.out.keep ((Below.refl _ _).alloc (Nat.le_refl _) _)) W5.heap.size 1 z rfl (Two.new W5 _ _ _) (by omega) (by have := HB5.out.size; simp; omega) ?_; intro v1 w1 hown1 hg1; have HO2 := Lib.hid hown1; have HB2 := Lib.hid (below_grown (w0 := w) (HB5.out.alloc HB5.out.size _) hg1 (HO5.out.keep ((Below.refl _ _).alloc (Nat.le_refl _) _)) (Nat.le_refl _)); clear hown1 hg1)
        go_roundw
        case rel => exact ⟨k + 1, _, by omega, by go_num, HO2.out, HB2.out⟩
        case measure => simp [intOf]; omega
      · have hn0 : ¬ (0 : Int) < (n : Int) := by omega
        go_upto_region 8 with fail
        refine wp_named1 (fun V hbV g0 hzV => ?_)
        have HO5 := Lib.hid (HO1.out.keep hbV)
        have HB5 := Lib.hid (below_step HB1.out hbV)
        have ht5 : Two V W1.heap.size 27 (.int .u64 (vF x.A)) (.int .u64 (vF x.B)) := g0
        have c0 := ht5.c0
        have c1 := ht5.c1
        clear g0 hbV ht5
        go_wp2_with (at_builtin; refine wpList_appendE rfl (.tmp 34) (.tmp 36) rfl (w.heap.size) _ k _ rfl (HO5.out.keep ((Below.refl _ _).alloc (Nat.le_refl _) _)) V.heap.size 1 x rfl (Two.new V _ _ _) (by omega) (by have := HB5.out.size; simp; omega) ?_; intro v1 w1 hown1 hg1; have HO2 := Lib.hid hown1; have HB2 := Lib.hid (below_grown (w0 := w) (HB5.out.alloc HB5.out.size _) hg1 (HO5.out.keep ((Below.refl _ _).alloc (Nat.le_refl _) _)) (Nat.le_refl _)); clear hown1 hg1)
        go_roundw
        case rel => exact ⟨k + 1, _, by omega, by go_num, HO2.out, HB2.out⟩
        case measure => simp [intOf]; omega
    · have hkn : k = N := by omega
      subst hkn
      obtain ⟨A1, c1, rfl, hs1⟩ := HO.out.sl
      clear hs1
      go_wp2_with fail
      go_ret
      exact ⟨A1, k, c1, xs, rfl, HN.out, HO.out, HB.out⟩
end

end Go.Proofs.Ytipbfonlcmegdaa
