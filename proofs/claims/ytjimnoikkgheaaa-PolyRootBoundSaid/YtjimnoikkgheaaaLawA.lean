/- Contracts of the helpers of the laws of package poly: elements of integers, lists without repetitions; no conditions but lengths. -/
import Derived.Test.YtjimnoikkgheaaaRefC
import Derived.Test.YtjimnoikkgheaaaPolN
namespace Go.Proofs.Ytjimnoikkgheaaa
open Go.RowKit Gold

/-- a slice value that reads as the integers zs -/
structure Sz (w : World) (A : Option Addr) (n c : Nat) (zs : List Int) : Prop where
  len : n = zs.length
  cap : n ≤ c
  top : c ≤ 9223372036854775807
  cells : ∀ (i : Nat) (z : Int), zs[i]? = some z → ∃ ad, A = some ad ∧ w.cell? (ad.add i) = some (.int .i64 z)
theorem Sz.keep {w w' : World} {A : Option Addr} {n c : Nat} {zs : List Int} (h : Sz w A n c zs) (hb : Below w.heap.size w w') : Sz w' A n c zs :=
  ⟨h.len, h.cap, h.top, fun i k hk => by obtain ⟨ad, e, hc⟩ := h.cells i k hk; exact ⟨ad, e, cell_keep hc hb⟩⟩
theorem Sz.of {w : World} {g : Nat} {t : TypeId} {zs : List Int} (h : w.heap[g]? = some (.cells (zs.map fun z => Value.int .i64 z).toArray t (0, 0))) (hl : zs.length ≤ 9223372036854775807) : Sz w (some ⟨g, 0, none⟩) zs.length zs.length zs :=
  ⟨rfl, Nat.le_refl _, hl, fun i z hz => ⟨_, rfl, by rw [add_base]; simp [World.cell?, h, hz]⟩⟩

set_option maxHeartbeats 1000000 in
theorem ints_any (A : Option Addr) (n c : Nat) (zs : List Int) (w : World) (h : Sz w A n c zs) (hw : ∀ z, z ∈ zs → -9223372036854775808 ≤ z ∧ z < 9223372036854775808) (hn : n ≤ 65536) :
    Calls Try.prog 44 #[.slice A n c] w fun e w' => ∃ A' c', e = .returned (.slice A' n c') ∧ Sl w' A' n c' (zs.map ndZ) ∧ Below w.heap.size w w' := by
  have hnc := h.cap
  have hct := h.top
  have HL := Lib.hid h.len
  have HS := Lib.hid h
  have HW := Lib.hid hw
  clear h hw
  go_enter Try.func44, Try.ntmps44
  go_wp2_with fail
  go_loopw [3, 4] (fun v i wr => ∃ k : Nat, k ≤ n ∧ i = .int .i64 k ∧ OwE wr w.heap.size v k ((zs.take k).map ndZ) ∧ Below w.heap.size w wr) (fun _ i _ => n - (intOf i).toNat)
  case atStart => exact ⟨0, Nat.zero_le _, rfl, OwE.made w w.heap.size (Nat.le_refl _), (Below.refl _ _).alloc (Nat.le_refl _) _⟩
  case round =>
    obtain ⟨k, hk, rfl, ho, hb⟩ := hrel
    have HO := Lib.hid ho
    have HB := Lib.hid hb
    clear ho hb
    by_cases hlt : k < n
    · obtain ⟨z, hz⟩ : ∃ z, zs[k]? = some z := ⟨zs[k]'(by have := HL.out; omega), List.getElem?_eq_getElem _⟩
      obtain ⟨ad, rfl, h0⟩ := HS.out.cells k z hz
      replace h0 := cell_keep h0 HB.out
      have hzw := HW.out z (List.mem_of_getElem? hz)
      have HX := Lib.hid hz
      clear hz
      go_wp2_with fail
      refine (rFromInt_any z _ hzw.1 hzw.2).mono ?_
      rintro e W1 ⟨rfl, hb⟩
      have HO1 := Lib.hid (HO.out.keep hb)
      have HB1 := Lib.hid (below_step HB.out hb)
      clear hb h0 hzw
      go_wp2_with (at_builtin; refine wpList_appendE rfl (.tmp 12) (.tmp 18) rfl (w.heap.size) _ k _ rfl (HO1.out.keep ((Below.refl _ _).alloc (Nat.le_refl _) _)) W1.heap.size 1 (ndZ z) rfl (Two.new W1 _ _ _) (by omega) (by have := HB1.out.size; simp; omega) ?_; intro v1 w1 hown1 hg1; have HO2 := Lib.hid hown1; have HB2 := Lib.hid (below_grown (w0 := w) (HB1.out.alloc HB1.out.size _) hg1 (HO1.out.keep ((Below.refl _ _).alloc (Nat.le_refl _) _)) (Nat.le_refl _)); clear hown1 hg1)
      go_roundw
      case rel => exact ⟨k + 1, by omega, by go_num, by rw [List.take_succ_eq_append_getElem (by have := HL.out; omega), List.map_append, (List.getElem?_eq_some_iff.1 HX.out).2]; exact HO2.out, HB2.out⟩
      case measure => simp [intOf]; omega
    · have hkn : k = n := by omega
      subst hkn
      obtain ⟨A1, c1, rfl, hs1⟩ := HO.out.sl
      have HSQ := Lib.hid hs1
      clear hs1
      go_wp2_with fail
      go_ret
      exact ⟨A1, c1, rfl, by have := HSQ.out; rw [HL.out, List.take_length, ← HL.out] at this; exact this, HB.out⟩

/-- the first k elements without repetitions -/
def diffAt (l : List E2) : Nat → List E2
  | 0 => []
  | k + 1 => if cfE l k ∈ diffAt l k then diffAt l k else diffAt l k ++ [cfE l k]
theorem diffAt_length (l : List E2) : ∀ k, (diffAt l k).length ≤ k
  | 0 => Nat.le_refl _
  | k + 1 => by
    have := diffAt_length l k
    rw [diffAt]
    split
    · omega
    · rw [List.length_append]; simp; omega
theorem diffAt_nodup (l : List E2) : ∀ k, (diffAt l k).Nodup
  | 0 => List.Pairwise.nil
  | k + 1 => by
    have ih := diffAt_nodup l k
    rw [diffAt]
    split
    · exact ih
    · next h =>
      unfold List.Nodup
      rw [List.pairwise_append]
      refine ⟨ih, by simp, fun a ha b hb => ?_⟩
      simp at hb
      subst hb
      intro e
      exact h (e ▸ ha)
/-- is x among the first k? -/
def seenB (x : E2) (l : List E2) (k : Nat) : Bool := decide (x ∈ l.take k)
theorem seenB_zero (x : E2) (l : List E2) : seenB x l 0 = false := by simp [seenB]
theorem seenB_succ {x y : E2} {l : List E2} {k : Nat} (h : l[k]? = some y) : seenB x l (k + 1) = (seenB x l k || decide (y = x)) := by
  obtain ⟨hl, he⟩ := List.getElem?_eq_some_iff.1 h
  unfold seenB
  rw [List.take_succ_eq_append_getElem hl, he, Bool.eq_iff_iff]
  simp only [decide_eq_true_iff, List.mem_append, List.mem_singleton, Bool.or_eq_true]
  exact ⟨Or.imp id Eq.symm, Or.imp id Eq.symm⟩

set_option maxHeartbeats 2000000 in
theorem different_any (A : Option Addr) (n c : Nat) (ls : List E2) (w : World) (h : Sl w A n c ls) (hn : n ≤ 65536) :
    Calls Try.prog 43 #[.slice A n c] w fun e w' => ∃ A' m c', e = .returned (.slice A' m c') ∧ Sl w' A' m c' (diffAt ls n) ∧ Below w.heap.size w w' := by
  have hnc := h.cap
  have hct := h.top
  have HL := Lib.hid h.len
  have HS := Lib.hid h
  clear h
  go_enter Try.func43, Try.ntmps43
  go_wp2_with fail
  go_loopw [3, 4] (fun v i wr => ∃ (k m : Nat) (A2 : Option Addr) (c2 : Nat), k ≤ n ∧ m ≤ k ∧ i = .int .i64 k ∧ v = .slice A2 m c2 ∧ OwE wr w.heap.size (.slice A2 m c2) m (diffAt ls k) ∧ Below w.heap.size w wr) (fun _ i _ => n - (intOf i).toNat)
  case atStart => exact ⟨0, 0, _, 0, Nat.zero_le _, Nat.le_refl _, rfl, rfl, OwE.made w w.heap.size (Nat.le_refl _), (Below.refl _ _).alloc (Nat.le_refl _) _⟩
  case round =>
    obtain ⟨k, m, A2, c2, hk, hmk, rfl, rfl, ho, hb⟩ := hrel
    have hs2 := ho.sl'
    have hm2 := hs2.cap
    have hc2 := hs2.top
    have HS2 := Lib.hid hs2
    have HO := Lib.hid ho
    have HB := Lib.hid hb
    clear ho hb hs2
    by_cases hlt : k < n
    · obtain ⟨x, hx⟩ := HS.out.get hlt
      obtain ⟨ad, rfl, h0, h1⟩ := HS.out.at_ hx
      have G0 := Lib.hid h0
      have G1 := Lib.hid h1
      have HX := Lib.hid hx
      clear hx h0 h1
      go_wp2_with fail
      go_loopw [5, 6] (fun f j w2 => ∃ q : Nat, q ≤ m ∧ j = .int .i64 q ∧ f = .bool (seenB x (diffAt ls k) q) ∧ Below wr.heap.size wr w2) (fun _ j _ => m - (intOf j).toNat)
      case atStart => exact ⟨0, Nat.zero_le _, rfl, by rw [seenB_zero], Below.refl _ _⟩
      case round =>
        obtain ⟨q, hq, rfl, rfl, hb⟩ := hrel
        have HB2 := Lib.hid hb
        clear hb
        by_cases hltq : q < m
        · obtain ⟨y, hy⟩ := HS2.out.get hltq
          obtain ⟨ad2, rfl, h2, h3⟩ := HS2.out.at_ hy
          have l0 := Later.cell (cell_keep h2 HB2.out)
          have l1 := Later.cell (cell_keep h3 HB2.out)
          have l2 := Later.cell (cell_keep G0.out (below_step HB.out HB2.out))
          have l3 := Later.cell (cell_keep G1.out (below_step HB.out HB2.out))
          have HY := Lib.hid (seenB_succ (x := x) hy)
          clear hy h2 h3
          cases hf : seenB x (diffAt ls k) q with
          | true =>
            have HFs := Lib.hid hf
            clear hf
            go_wp2_with fail
            refine wp_later_lex (by kernel_rfl) (lexOK_of (by kernel_rfl) (by kernel_rfl)) ?_
            repeat (go_big_quiet_step (fail))
            refine wpQuiet_nil ?_
            intro X
            clear l0 l1 l2 l3
            have HB3 := Lib.hid (below_step HB2.out X.below)
            go_wp2_with fail
            go_roundw
            case rel => exact ⟨q + 1, by omega, by go_num, by rw [HY.out, HFs.out]; rfl, HB3.out⟩
            case measure => simp [intOf]; omega
          | false =>
            have HFs := Lib.hid hf
            clear hf
            have hk0 : (0 : Int) ≤ (k : Int) := by omega
            have hk1 : (k : Int) < (n : Int) := by omega
            have hq0 : (0 : Int) ≤ (q : Int) := by omega
            have hq1 : (q : Int) < (m : Int) := by omega
            go_wp2_with fail
            have heq := run_eqlE y x
            refine wp_later_lex (by kernel_rfl) (lexOK_of (by kernel_rfl) (by kernel_rfl)) ?_
            repeat (go_big_quiet_step (fail))
            refine wpQuiet_nil ?_
            intro X
            clear l0 l1 l2 l3 heq
            have HB3 := Lib.hid (below_step HB2.out X.below)
            go_wp2_with fail
            go_roundw
            case rel => exact ⟨q + 1, by omega, by go_num, by rw [HY.out, HFs.out, Bool.false_or]; congr 1, HB3.out⟩
            case measure => simp [intOf]; omega
        · have hqm : q = m := by omega
          subst hqm
          have hq2 : seenB x (diffAt ls k) q = decide (x ∈ diffAt ls k) := by unfold seenB; rw [HS2.out.len, List.take_length]
          by_cases hin : x ∈ diffAt ls k
          · have hf : seenB x (diffAt ls k) q = true := by rw [hq2]; exact decide_eq_true hin
            have HIN := Lib.hid hin
            have HB3 := Lib.hid (below_step HB.out HB2.out)
            have HO3 := Lib.hid (HO.out.keep HB2.out)
            clear hin hq2
            go_wp2_with fail
            go_roundw
            case rel => exact ⟨k + 1, q, A2, c2, by omega, by omega, by go_num, rfl, by rw [diffAt, cfE_some HX.out, if_pos HIN.out]; exact HO3.out, HB3.out⟩
            case measure => simp [intOf]; omega
          · have hf : seenB x (diffAt ls k) q = false := by rw [hq2]; exact decide_eq_false hin
            have HIN := Lib.hid hin
            have HB3 := Lib.hid (below_step HB.out HB2.out)
            have HO3 := Lib.hid (HO.out.keep HB2.out)
            have h0 := cell_keep G0.out HB3.out
            have h1 := cell_keep G1.out HB3.out
            clear hin hq2
            go_wp2_with (at_builtin; refine wpList_appendE rfl (.tmp 34) (.tmp 39) rfl (w.heap.size) _ q _ rfl (HO3.out.keep ((Below.refl _ _).alloc (Nat.le_refl _) _)) wr.heap.size 1 x rfl (Two.new wr _ _ _) (by omega) (by have := HB3.out.size; simp; omega) ?_; intro v1 w1 hown1 hg1; have HO4 := Lib.hid hown1; have HB4 := Lib.hid (below_grown (w0 := w) (HB3.out.alloc HB3.out.size _) hg1 (HO3.out.keep ((Below.refl _ _).alloc (Nat.le_refl _) _)) (Nat.le_refl _)); clear hown1 hg1)
            obtain ⟨A4, c4, rfl, hs4⟩ := HO4.out.sl
            clear hs4
            go_roundw
            case rel => exact ⟨k + 1, q + 1, A4, c4, by omega, by omega, by go_num, rfl, by rw [diffAt, cfE_some HX.out, if_neg HIN.out]; exact HO4.out, HB4.out⟩
            case measure => simp [intOf]; omega
    · have hkn : k = n := by omega
      subst hkn
      go_wp2_with fail
      go_ret
      exact ⟨A2, m, c2, rfl, HS2.out, HB.out⟩

end Go.Proofs.Ytjimnoikkgheaaa
