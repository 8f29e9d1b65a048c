/- Contracts of package mle: variables, allValid, Valid, Lift, vertex; no conditions but lengths. -/
import Derived.Test.YtipbfonlcmegdaaMpb
import Derived.Test.YtipbfonlcmegdaaNbit
import Derived.Test.YtipbfonlcmegdaaPolP
namespace Go.Proofs.Ytipbfonlcmegdaa
set_option maxRecDepth 8000
open Go.RowKit Gold

theorem int_pow_eq {n k : Nat} (h : n = 2 ^ k) : ((n : Int) == 2 ^ k) = true := by rw [beq_iff_eq, h, Int.natCast_pow]; rfl
theorem int_pow_ne {n k : Nat} (h : n ≠ 2 ^ k) : ((n : Int) == 2 ^ k) = false := by
  rw [beq_eq_false_iff_ne]
  intro e
  apply h
  have e2 : ((2 ^ k : Nat) : Int) = (2 : Int) ^ k := by rw [Int.natCast_pow]; rfl
  rw [← e2] at e
  exact Int.ofNat.inj e
theorem int_wpow_eq {n k : Nat} (hk : k ≤ 62) (h : n = 2 ^ k) : ((n : Int) == wrap64 (2 ^ k)) = true := by rw [wrap_pow2 hk, beq_iff_eq, h]
theorem int_wpow_ne {n k : Nat} (hk : k ≤ 62) (h : n ≠ 2 ^ k) : ((n : Int) == wrap64 (2 ^ k)) = false := by
  rw [wrap_pow2 hk, beq_eq_false_iff_ne]
  exact fun e => h (Int.ofNat.inj e)
set_option maxHeartbeats 1000000 in
theorem variables_yes (n K : Nat) (w : World) (hn : n = 2 ^ K) (hK : K ≤ 16) : Calls Try.prog 83 #[.int .i64 (n : Int)] w fun e w' => e = .returned (.tuple #[.int .i64 (K : Int), .bool true]) ∧ w' = w := by
  have HN := Lib.hid hn
  clear hn
  go_enter Try.func83, Try.ntmps83
  go_wp2_with fail
  go_loopw [5] (fun s wr => ∃ k : Nat, k ≤ K ∧ s = .int .i64 k ∧ wr = w) (fun s _ => 17 - (intOf s).toNat)
  case atStart => exact ⟨0, Nat.zero_le _, rfl, rfl⟩
  case round =>
    obtain ⟨k, hk, rfl, rfl⟩ := hrel
    have k17 : (k : Int) < 17 := by omega
    by_cases e : k = K
    · subst e
      have he := int_wpow_eq (by omega) HN.out
      go_wp2_with fail
      go_ret2
      exact ⟨rfl, rfl⟩
    · have he := int_wpow_ne (n := n) (k := k) (by omega) (fun h => e (pow2_inj (h.symm.trans HN.out)))
      go_wp2_with fail
      go_roundw
      case rel => exact ⟨k + 1, by omega, by go_num, trivial⟩
      case measure => simp [intOf]; omega
set_option maxHeartbeats 1000000 in
theorem variables_no (n : Nat) (w : World) (hn : ∀ K : Nat, K ≤ 16 → n ≠ 2 ^ K) : Calls Try.prog 83 #[.int .i64 (n : Int)] w fun e w' => e = .returned (.tuple #[.int .i64 0, .bool false]) ∧ w' = w := by
  have HN := Lib.hid hn
  clear hn
  go_enter Try.func83, Try.ntmps83
  go_wp2_with fail
  go_loopw [5] (fun s wr => ∃ k : Nat, k ≤ 17 ∧ s = .int .i64 k ∧ wr = w) (fun s _ => 17 - (intOf s).toNat)
  case atStart => exact ⟨0, Nat.zero_le _, rfl, rfl⟩
  case round =>
    obtain ⟨k, hk, rfl, rfl⟩ := hrel
    by_cases e : k < 17
    · have k17 : (k : Int) < 17 := by omega
      have he := int_wpow_ne (n := n) (k := k) (by omega) (HN.out k (by omega))
      go_wp2_with fail
      go_roundw
      case rel => exact ⟨k + 1, by omega, by go_num, trivial⟩
      case measure => simp [intOf]; omega
    · have hk17 : k = 17 := by omega
      subst hk17
      go_wp2_with fail
      go_ret2
      exact ⟨rfl, rfl⟩

/-- a slice value that reads as pairs of words -/
def SlW (w : World) (A : Option Addr) (n c : Nat) (qs : List (Int × Int)) : Prop := SlR w A n c (qs.map fun q => (.int .u64 q.1, .int .u64 q.2))
theorem SlW.len {w : World} {A : Option Addr} {n c : Nat} {qs : List (Int × Int)} (h : SlW w A n c qs) : n = qs.length := by simpa using SlR.len h
theorem SlW.keep {w w' : World} {A : Option Addr} {n c : Nat} {qs : List (Int × Int)} (h : SlW w A n c qs) (hb : Below w.heap.size w w') : SlW w' A n c qs := SlR.keep h hb
theorem SlW.get {w : World} {A : Option Addr} {n c i : Nat} {qs : List (Int × Int)} (h : SlW w A n c qs) (hi : i < n) : ∃ q, qs[i]? = some q := ⟨qs[i]'(by have := h.len; omega), List.getElem?_eq_getElem _⟩
theorem SlW.at_ {w : World} {A : Option Addr} {n c i : Nat} {qs : List (Int × Int)} {q : Int × Int} (h : SlW w A n c qs) (hq : qs[i]? = some q) : ∃ ad, A = some ad ∧ w.cell? (ad.add (i * 2)) = some (.int .u64 q.1) ∧ w.cell? ⟨(ad.add (i * 2)).block, (ad.add (i * 2)).off + 1, none⟩ = some (.int .u64 q.2) := by
  obtain ⟨ad, e, h1, h2⟩ := SlR.cells h i (.int .u64 q.1, .int .u64 q.2) (by simp [hq])
  exact ⟨ad, e, h1, h2⟩
theorem SlW.of {w : World} {A : Option Addr} {n c : Nat} {xs : List E2} (h : Sl w A n c xs) : SlW w A n c (xs.map fun x => (vF x.A, vF x.B)) := by
  unfold SlW
  rw [List.map_map]
  exact h
/-- are all pairs elements? -/
def allV (qs : List (Int × Int)) : Bool := qs.all fun q => evalid q.1 q.2
theorem allV_E2 (xs : List E2) : allV (xs.map fun x => (vF x.A, vF x.B)) = true := by
  unfold allV
  rw [List.all_eq_true]
  intro q hq
  rw [List.mem_map] at hq
  obtain ⟨x, _, rfl⟩ := hq
  exact evalid_E2 x
theorem allV_no {qs : List (Int × Int)} {i : Nat} {q : Int × Int} (h : qs[i]? = some q) (hv : evalid q.1 q.2 = false) : allV qs = false := by
  unfold allV
  rw [← Bool.not_eq_true, List.all_eq_true]
  intro hall
  rw [hall q (List.mem_of_getElem? h)] at hv
  cases hv

set_option maxHeartbeats 1000000 in
theorem allValid_any (A : Option Addr) (n c : Nat) (qs : List (Int × Int)) (w : World) (h : SlW w A n c qs) (hn : n ≤ 65536) :
    Calls Try.prog 84 #[.slice A n c] w fun e w' => e = .returned (.bool (allV qs)) ∧ Below w.heap.size w w' := by
  have HS := Lib.hid h
  have HL := Lib.hid h.len
  clear h
  go_enter Try.func84, Try.ntmps84
  go_wp2_with fail
  go_loopw [7] (fun s wr => ∃ k : Nat, k ≤ n ∧ s = .int .i64 k ∧ (∀ i q, i < k → qs[i]? = some q → evalid q.1 q.2 = true) ∧ Below w.heap.size w wr) (fun s _ => n - (intOf s).toNat)
  case atStart => exact ⟨0, Nat.zero_le _, rfl, fun i q hi => absurd hi (Nat.not_lt_zero _), Below.refl _ _⟩
  case round =>
    obtain ⟨k, hk, rfl, hall, hb⟩ := hrel
    have HA := Lib.hid hall
    have HB := Lib.hid hb
    clear hall hb
    by_cases hlt : k < n
    · obtain ⟨q, hq⟩ := HS.out.get hlt
      obtain ⟨ad, rfl, h0, h1⟩ := HS.out.at_ hq
      have k0 := cell_keep h0 HB.out
      have k1 := cell_keep h1 HB.out
      have HQ := Lib.hid hq
      clear hq h0 h1
      have hk1 : (k : Int) < (n : Int) := by omega
      go_wp2_with fail
      clear k0 k1
      refine calls_named1 (fun V hbV g0 hzV => ?_)
      have HBV := Lib.hid (below_step HB.out hbV)
      clear hbV g0
      refine (extValid_any q.1 q.2 _).mono ?_
      rintro e W1 ⟨rfl, hb⟩
      have HB1 := Lib.hid (below_step HBV.out hb)
      clear hb
      cases hv : evalid q.1 q.2 with
      | true =>
        have HV := Lib.hid hv
        clear hv
        go_wp2_with fail
        go_roundw
        case rel => exact ⟨k + 1, by omega, by go_num, fun i r hi hr => by
          by_cases e : i = k
          · subst e
            rw [HQ.out] at hr
            injection hr with hr
            subst hr
            exact HV.out
          · exact HA.out i r (by omega) hr, HB1.out⟩
        case measure => simp [intOf]; omega
      | false =>
        have HV := Lib.hid (allV_no HQ.out hv)
        clear hv
        go_wp2_with fail
        go_ret
        exact ⟨by rw [HV.out]; rfl, HB1.out⟩
    · have hkn : k = n := by omega
      subst hkn
      have HV := Lib.hid (show allV qs = true by
        unfold allV
        rw [List.all_eq_true]
        intro q hq
        obtain ⟨i, hi, he⟩ := List.getElem_of_mem hq
        exact HA.out i q (by rw [HL.out]; exact hi) (by rw [List.getElem?_eq_getElem hi, he]))
      go_wp2_with fail
      go_ret
      exact ⟨by rw [HV.out]; rfl, HB.out⟩

set_option maxHeartbeats 1000000 in
theorem mleValid_no (A : Option Addr) (n c : Nat) (w : World) (hn : ∀ K : Nat, K ≤ 16 → n ≠ 2 ^ K) :
    Calls Try.prog 49 #[.slice A n c] w fun e w' => e = .returned (.tuple #[.int .i64 0, .bool false]) ∧ Below w.heap.size w w' := by
  have HN := Lib.hid hn
  clear hn
  go_enter Try.func49, Try.ntmps49
  go_wp2_with fail
  refine (variables_no n w HN.out).mono ?_
  rintro e W1 ⟨rfl, rfl⟩
  go_wp2_with fail
  go_ret2
  exact ⟨rfl, Below.refl _ _⟩
set_option maxHeartbeats 1000000 in
theorem mleValid_yes (A : Option Addr) (n c K : Nat) (qs : List (Int × Int)) (w : World) (h : SlW w A n c qs) (hn : n = 2 ^ K) (hK : K ≤ 16) (hv : allV qs = true) :
    Calls Try.prog 49 #[.slice A n c] w fun e w' => e = .returned (.tuple #[.int .i64 (K : Int), .bool true]) ∧ Below w.heap.size w w' := by
  have HN := Lib.hid hn
  have HS := Lib.hid h
  have HV := Lib.hid hv
  clear hn h hv
  go_enter Try.func49, Try.ntmps49
  go_wp2_with fail
  refine (variables_yes n K w HN.out hK).mono ?_
  rintro e W1 ⟨rfl, rfl⟩
  go_wp2_with fail
  have hc := allValid_any A n c qs W1 HS.out (by rw [HN.out]; exact Nat.pow_le_pow_right (n := 2) (by omega) hK)
  rw [HV.out] at hc
  refine hc.mono ?_
  rintro e W2 ⟨rfl, hb⟩
  have HB := Lib.hid hb
  clear hb hc
  go_wp2_with fail
  go_ret2
  exact ⟨rfl, HB.out⟩
set_option maxHeartbeats 1000000 in
theorem mleValid_bad (A : Option Addr) (n c K : Nat) (qs : List (Int × Int)) (w : World) (h : SlW w A n c qs) (hn : n = 2 ^ K) (hK : K ≤ 16) (hv : allV qs = false) :
    Calls Try.prog 49 #[.slice A n c] w fun e w' => e = .returned (.tuple #[.int .i64 0, .bool false]) ∧ Below w.heap.size w w' := by
  have HN := Lib.hid hn
  have HS := Lib.hid h
  have HV := Lib.hid hv
  clear hn h hv
  go_enter Try.func49, Try.ntmps49
  go_wp2_with fail
  refine (variables_yes n K w HN.out hK).mono ?_
  rintro e W1 ⟨rfl, rfl⟩
  go_wp2_with fail
  have hc := allValid_any A n c qs W1 HS.out (by rw [HN.out]; exact Nat.pow_le_pow_right (n := 2) (by omega) hK)
  rw [HV.out] at hc
  refine hc.mono ?_
  rintro e W2 ⟨rfl, hb⟩
  have HB := Lib.hid hb
  clear hb hc
  go_wp2_with fail
  go_ret2
  exact ⟨rfl, HB.out⟩

set_option maxHeartbeats 1000000 in
theorem mleLift_any (A : Option Addr) (n c : Nat) (xs : List F) (w : World) (h : Sf w A n c xs) (hn : n ≤ 65536) :
    Calls Try.prog 57 #[.slice A n c] w fun e w' => ∃ g, e = .returned (.slice (some ⟨g, 0, none⟩) n n) ∧ Row w' g (xs.map E2.ofF) ∧ Below w.heap.size w w' := by
  have hmk := run_makeE n hn
  generalize hr0 : List.replicate n E2.zero = r0 at hmk
  have HR0 := Lib.hid hr0
  clear hr0
  have HS := Lib.hid h
  have HL := Lib.hid h.len
  clear h
  go_enter Try.func57, Try.ntmps57
  go_wp2_with fail
  clear hmk
  go_loopw [11] (fun s wr => ∃ k : Nat, k ≤ n ∧ s = .int .i64 k ∧ Row wr w.heap.size (tabE k (fun i => E2.ofF (cfF xs i)) ++ List.replicate (n - k) E2.zero) ∧ Below w.heap.size w wr) (fun s _ => n - (intOf s).toNat)
  case atStart => exact ⟨0, Nat.zero_le _, rfl, by rw [tab_start, HR0.out]; exact heap_new _ _, (Below.refl _ _).alloc (Nat.le_refl _) _⟩
  case round =>
    obtain ⟨k, hk, rfl, hr, hb⟩ := hrel
    have HR := Lib.hid hr
    have HB := Lib.hid hb
    clear hr hb
    by_cases hlt : k < n
    · obtain ⟨x, hx⟩ := HS.out.get hlt
      obtain ⟨ad, rfl, h0⟩ := HS.out.at_ hx
      have k0 := cell_keep h0 HB.out
      have HX := Lib.hid hx
      clear hx h0
      have hk1 : (k : Int) < (n : Int) := by omega
      have hk0 : (0 : Int) ≤ (k : Int) := by omega
      go_wp2_with fail
      refine (extFromBase_any x _).mono ?_
      rintro e W1 ⟨rfl, hb⟩
      have HR1 := Lib.hid (HR.out.keep hb)
      have HB1 := Lib.hid (below_step HB.out hb)
      clear hb k0
      have hz := HR1.out.at_ (tab_at (fun i => E2.ofF (cfF xs i)) hlt)
      have c0 := hz.1
      have c1 := hz.2
      have f0 := HR1.out.free (k * 2)
      have f1 := HR1.out.free (k * 2 + 1)
      clear hz
      go_wp2_with fail
      go_roundw
      case rel => exact ⟨k + 1, by omega, by go_num, by have := HR1.out.set k (E2.ofF x); rw [← cfF_some HX.out] at this ⊢; rw [← tab_step (n := n) (fun i => E2.ofF (cfF xs i)) hlt]; exact this, (HB1.out.setCell (Nat.le_refl _) _).setCell (Nat.le_refl _) _⟩
      case measure => simp [intOf]; omega
    · have hkn : k = n := by omega
      subst hkn
      go_wp2_with fail
      go_ret
      refine ⟨_, rfl, ?_, HB.out⟩
      have e : xs.map E2.ofF = tabE k (fun i => E2.ofF (cfF xs i)) := by
        rw [HL.out]
        apply List.ext_getElem?
        intro i
        by_cases hi : i < xs.length
        · rw [tabE_get _ hi, List.getElem?_map, List.getElem?_eq_getElem hi, cfF_some (List.getElem?_eq_getElem hi)]
          rfl
        · rw [List.getElem?_eq_none (by simpa using hi), List.getElem?_eq_none (by rw [tabE_length]; omega)]
      rw [e, ← tab_end k]
      exact HR.out

end Go.Proofs.Ytipbfonlcmegdaa
