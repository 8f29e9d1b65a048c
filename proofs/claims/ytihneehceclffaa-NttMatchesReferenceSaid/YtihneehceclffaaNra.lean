/- Contracts of the references of fields and of transforms: made slices, equal slices, values by Horner's rule; no conditions but that slices hold field elements. -/
import Derived.Test.YtihneehceclffaaNpb
namespace Go.Proofs.Ytihneehceclffaa
open Go.RowKit Gold

theorem rmulFb (a b : F) (w : World) : Calls Try.prog 26 #[.int .u64 (vF a), .int .u64 (vF b)] w fun e w' => e = .returned (.int .u64 (vF (a * b))) ∧ Below w.heap.size w w' :=
  (rmulF a b w).mono fun _ _ ⟨h, k⟩ => ⟨h, k ▸ Below.refl _ _⟩
theorem raddFb (a b : F) (w : World) : Calls Try.prog 25 #[.int .u64 (vF a), .int .u64 (vF b)] w fun e w' => e = .returned (.int .u64 (vF (a + b))) ∧ Below w.heap.size w w' :=
  (raddF a b w).mono fun _ _ ⟨h, k⟩ => ⟨h, k ▸ Below.refl _ _⟩
theorem rreduceFb (a : Int) (w : World) (h : U64 a) : Calls Try.prog 24 #[.int .u64 a] w fun e w' => e = .returned (.int .u64 (vF (toF a))) ∧ Below w.heap.size w w' :=
  (rreduceF a w h).mono fun _ _ ⟨h, k⟩ => ⟨h, k ▸ Below.refl _ _⟩
theorem rreduceV (a : F) (w : World) : Calls Try.prog 24 #[.int .u64 (vF a)] w fun e w' => e = .returned (.int .u64 (vF a)) ∧ Below w.heap.size w w' := by
  have h := rreduceFb (vF a) w (El_vF a).u64
  rw [toF_vF] at h
  exact h

set_option maxHeartbeats 1000000 in
theorem same_yesF (A : Option Addr) (n c : Nat) (B : Option Addr) (m d : Nat) (xs : List F) (w : World) (h : Sf w A n c xs) (h' : Sf w B m d xs) :
    Calls Try.prog 22 #[.slice A n c, .slice B m d] w fun e w' => e = .returned (.bool true) ∧ Below w.heap.size w w' := by
  obtain rfl : n = m := h.len.trans h'.len.symm
  have hcap := h.cap
  have htop := h.top
  have hcap' := h'.cap
  have htop' := h'.top
  have HX := Lib.hid h
  have HY := Lib.hid h'
  clear h h'
  go_enter Try.func22, Try.ntmps22
  go_wp2_with fail
  go_loopw [5] (fun i wr => ∃ k : Nat, k ≤ n ∧ i = .int .i64 k ∧ Below w.heap.size w wr) (fun i _ => n - (intOf i).toNat)
  case atStart => exact ⟨0, Nat.zero_le _, rfl, Below.refl _ _⟩
  case round =>
    obtain ⟨k, hk, rfl, hb⟩ := hrel
    have HB := Lib.hid hb
    clear hb
    by_cases hlt : k < n
    · obtain ⟨x, hx⟩ := HX.out.get hlt
      obtain ⟨ad, rfl, h0⟩ := HX.out.at_ hx
      obtain ⟨bd, rfl, h1⟩ := HY.out.at_ hx
      have l0 := Later.cell (cell_keep h0 HB.out)
      have l1 := Later.cell (cell_keep h1 HB.out)
      have hk0 : (0 : Int) ≤ (k : Int) := by omega
      have hk1 : (k : Int) < (n : Int) := by omega
      clear hx h0 h1
      go_wp2_with fail
      refine wp_later_lex (by kernel_rfl) (lexOK_of (by kernel_rfl) (by kernel_rfl)) ?_
      repeat (go_big_quiet_step (fail))
      refine wpQuiet_nil ?_
      intro X
      have HB1 := Lib.hid (bel_step HB.out X.below)
      clear l0 l1
      go_wp2_with fail
      go_roundw
      case rel => exact ⟨k + 1, by omega, by go_num, HB1.out⟩
      case measure => simp [intOf]; omega
    · obtain rfl : k = n := by omega
      go_wp2_with fail
      go_ret
      exact ⟨rfl, HB.out⟩

set_option maxHeartbeats 1000000 in
theorem made1_any (A : Option Addr) (n c : Nat) (zs : List Int) (w : World) (h : Su w A n c zs) (hz : ∀ z ∈ zs, U64 z) (hn : n ≤ 65536) :
    Calls Try.prog 13 #[.slice A n c] w fun e w' => ∃ A' c', e = .returned (.slice A' n c') ∧ Sf w' A' n c' (zs.map toF) ∧ Below w.heap.size w w' := by
  have hcap := h.cap
  have htop := h.top
  have HL := Lib.hid h.len
  have HX := Lib.hid h
  have HZ := Lib.hid hz
  clear h hz
  go_enter Try.func13, Try.ntmps13
  go_wp2_with fail
  go_loopw [3, 4] (fun v i wr => ∃ k : Nat, k ≤ n ∧ i = .int .i64 k ∧ OwF wr w.heap.size v k ((zs.take k).map toF) ∧ Below w.heap.size w wr) (fun _ i _ => n - (intOf i).toNat)
  case atStart => exact ⟨0, Nat.zero_le _, rfl, OwF.made w _ (Nat.le_refl _), (Below.refl _ _).alloc (Nat.le_refl _) _⟩
  case round =>
    obtain ⟨k, hk, rfl, ho, hb⟩ := hrel
    have HO := Lib.hid ho
    have HB := Lib.hid hb
    clear ho hb
    by_cases hlt : k < n
    · obtain ⟨x, hx⟩ := HX.out.get hlt
      obtain ⟨ad, rfl, h0⟩ := HX.out.at_ hx
      have h1 := cell_keep h0 HB.out
      have hu := HZ.out x (List.mem_of_getElem? hx)
      have HU := Lib.hid hu
      have HXk := Lib.hid hx
      clear h0 hu hx
      go_wp2_with fail
      refine (rreduceF x _ HU.out).mono ?_
      rintro e w1 ⟨rfl, rfl⟩
      go_wp2_with (at_builtin; refine wpList_appendF rfl (.tmp 12) (.tmp 18) rfl (w.heap.size) _ k _ rfl (HO.out.keep ((Below.refl _ _).alloc (Nat.le_refl _) _)) w1.heap.size 1 (toF x) rfl (One.new w1 _ _) (by omega) (by have := HB.out.size; simp; omega) ?_; intro v2 w2 hown2 hb2; have HO2 := Lib.hid hown2; have HB2 := Lib.hid ((HB.out.alloc HB.out.size _).trans hb2); clear hown2 hb2)
      go_roundw
      case rel => exact ⟨k + 1, by omega, by go_num, by rw [List.take_succ_eq_append_getElem (by have := HL.out; omega), List.map_append, (List.getElem?_eq_some_iff.1 HXk.out).2]; exact HO2.out, HB2.out⟩
      case measure => simp [intOf]; omega
    · obtain rfl : k = n := by omega
      obtain ⟨A1, c1, rfl, hs⟩ := HO.out.sl
      have HS := Lib.hid hs
      clear hs HO
      go_wp2_with fail
      go_ret
      exact ⟨_, _, rfl, by have := HS.out; rw [HL.out, List.take_length, ← HL.out] at this; exact this, HB.out⟩

set_option maxHeartbeats 1000000 in
theorem made4_any (A : Option Addr) (n c : Nat) (zs : List Int) (k : Int) (most q N : Nat) (w : World) (h : Su w A n c zs) (hz : ∀ z ∈ zs, U64 z) (hk : 0 ≤ k ∧ k ≤ 255) (hm : most ≤ 15) (hq : k % ((most : Int) + 1) = (q : Int)) (hN : N = 2 ^ q) :
    Calls Try.prog 23 #[.slice A n c, .int .u8 k, .int .i64 (most : Int)] w fun e w' => ∃ g, e = .returned (.slice (some ⟨g, 0, none⟩) N N) ∧ Sf w' (some ⟨g, 0, none⟩) N N (tabF N (cfF (zs.map toF))) ∧ Below w.heap.size w w' := by
  have hql : q ≤ 15 := by have := Int.emod_lt_of_pos k (show (0 : Int) < (most : Int) + 1 by omega); omega
  have hN2 : N ≤ 65536 := by rw [hN]; exact pow2_le (by omega)
  have hw : wrap64 (2 ^ q) = (N : Int) := by rw [hN]; exact wrap_pow2 (by omega)
  have hmk := run_makeF N (by omega)
  have hk0 := hk.1
  have hk1 := hk.2
  have hcap := h.cap
  have htop := h.top
  have HL := Lib.hid h.len
  have HX := Lib.hid h
  have HZ := Lib.hid hz
  clear h hz hN hk
  go_enter Try.func23, Try.ntmps23
  have HW := Lib.hid hw
  go_wp2_with fail
  clear hmk hw hq
  go_loopw [9] (fun i wr => ∃ j : Nat, j ≤ N ∧ j ≤ n ∧ i = .int .i64 j ∧ RowF wr w.heap.size (tabF N fun p => if p < j then cfF (zs.map toF) p else 0) ∧ Below w.heap.size w wr) (fun i _ => N - (intOf i).toNat)
  case atStart => exact ⟨0, Nat.zero_le _, Nat.zero_le _, rfl, by rw [tabF_congr (g := fun _ => 0) fun p _ => if_neg (Nat.not_lt_zero _)]; exact rowF_made w _, (Below.refl _ _).alloc (Nat.le_refl _) _⟩
  case round =>
    obtain ⟨j, hj, hjn, rfl, hr, hb⟩ := hrel
    have HR := Lib.hid hr
    have HB := Lib.hid hb
    clear hr hb
    have fin : ¬ (j < N ∧ j < n) → RowF wr w.heap.size (tabF N (cfF (zs.map toF))) := by
      intro hno
      have h1 := HR.out
      rw [tabF_congr (g := cfF (zs.map toF)) fun p hp => ?_] at h1
      · exact h1
      · by_cases h2 : p < j
        · exact if_pos h2
        · rw [if_neg h2, cfF_none]
          rw [List.length_map, ← HL.out]
          omega
    have HF := Lib.hid fin
    clear fin
    by_cases hlt : j < N
    · by_cases hln : j < n
      · obtain ⟨x, hx⟩ := HX.out.get hln
        obtain ⟨ad, rfl, h0⟩ := HX.out.at_ hx
        have h1 := cell_keep h0 HB.out
        have hu := HZ.out x (List.mem_of_getElem? hx)
        obtain ⟨y, hy⟩ : ∃ y, (tabF N fun p => if p < j then cfF (zs.map toF) p else 0)[j]? = some y := ⟨_, tabF_get _ hlt⟩
        have h2 := HR.out.at_ hy
        have h3 := HR.out.free j
        have HU := Lib.hid hu
        have HXk := Lib.hid hx
        clear h0 hu hx hy
        have hwt : (j : Int) < wrap64 (2 ^ q) := by rw [HW.out]; omega
        go_wp2_with (go_at_call 24; refine (rreduceF x _ HU.out).mono ?_; rintro e w1 ⟨rfl, rfl⟩)
        clear hwt
        have HR3 := Lib.hid (show RowF (w1.setCell ⟨w.heap.size, j, none⟩ (.int .u64 (vF (toF x)))) w.heap.size (tabF N fun p => if p < j + 1 then cfF (zs.map toF) p else 0) by
          have h4 := HR.out.set j (toF x)
          rw [tabF_set, tabF_congr (g := fun p => if p < j + 1 then cfF (zs.map toF) p else 0) fun p _ => ?_] at h4
          · exact h4
          · by_cases e : p = j
            · subst e
              rw [if_pos rfl, if_pos (Nat.lt_succ_self _), cfF_some (show (zs.map toF)[p]? = some (toF x) by rw [List.getElem?_map, HXk.out]; rfl)]
            · rw [if_neg e]
              by_cases h5 : p < j
              · rw [if_pos h5, if_pos (by omega)]
              · rw [if_neg h5, if_neg (by omega)])
        go_roundw
        case rel => exact ⟨j + 1, by omega, by omega, by go_num, HR3.out, HB.out.setCell (p := ⟨w.heap.size, j, none⟩) (Nat.le_refl _) _⟩
        case measure => simp [intOf]; omega
      · have HRr := Lib.hid (HF.out (by omega))
        clear HF
        have hwt : (j : Int) < wrap64 (2 ^ q) := by rw [HW.out]; omega
        go_wp2_with fail
        clear hwt
        go_ret
        exact ⟨_, rfl, HRr.out.own (tabF_length _ _).symm (by omega), HB.out⟩
    · have HRr := Lib.hid (HF.out (by omega))
      clear HF
      have hwt : ¬ (j : Int) < wrap64 (2 ^ q) := by rw [HW.out]; omega
      go_wp2_with fail
      clear hwt
      go_ret
      exact ⟨_, rfl, HRr.out.own (tabF_length _ _).symm (by omega), HB.out⟩

set_option maxHeartbeats 1000000 in
theorem evalF (A : Option Addr) (n c : Nat) (xs : List F) (x : F) (w : World) (h : Sf w A n c xs) :
    Calls Try.prog 29 #[.slice A n c, .int .u64 (vF x)] w fun e w' => e = .returned (.int .u64 (vF (evL xs x))) ∧ Below w.heap.size w w' := by
  have hcap := h.cap
  have htop := h.top
  have HL := Lib.hid h.len
  have HX := Lib.hid h
  clear h
  go_enter Try.func29, Try.ntmps29
  go_wp2_with fail
  go_loopw [5, 6] (fun v i wr => ∃ j : Nat, j ≤ n ∧ i = .int .i64 ((j : Int) - 1) ∧ v = .int .u64 (vF (evL (xs.drop j) x)) ∧ Below w.heap.size w wr) (fun _ i _ => (intOf i + 1).toNat)
  case atStart => exact ⟨n, Nat.le_refl _, rfl, by rw [HL.out, List.drop_length]; rfl, Below.refl _ _⟩
  case round =>
    obtain ⟨j, hj, rfl, rfl, hb⟩ := hrel
    have HB := Lib.hid hb
    clear hb
    cases j with
    | zero =>
      go_wp2_with fail
      go_ret
      exact ⟨rfl, HB.out⟩
    | succ j =>
      have hlt : j < n := by omega
      obtain ⟨y, hy⟩ := HX.out.get hlt
      obtain ⟨ad, rfl, h0⟩ := HX.out.at_ hy
      have hst : evL (xs.drop j) x = evL (xs.drop (j + 1)) x * x + y := by
        obtain ⟨hl, he⟩ := List.getElem?_eq_some_iff.1 hy
        rw [List.drop_eq_getElem_cons hl, he]
        rfl
      have HSt := Lib.hid hst
      obtain ⟨u, hu⟩ : ∃ u, u = evL (xs.drop (j + 1)) x := ⟨_, rfl⟩
      rw [← hu]
      have HU := Lib.hid hu
      have l0 := Later.cell (cell_keep h0 HB.out)
      have hk0 : (0 : Int) ≤ (j : Int) := by omega
      have hk1 : (j : Int) < (n : Int) := by omega
      clear hst hu hy h0
      go_wp2_with fail
      refine wp_later_lex (by kernel_rfl) (lexOK_of (by kernel_rfl) (by kernel_rfl)) ?_
      repeat (go_big_quiet_step (first | (go_at_call 26; with_reducible exact Calls.later (rmulFb u x _)) | (go_at_call 25; with_reducible exact Calls.later (raddFb (u * x) y _))))
      refine wpQuiet_nil ?_
      intro X
      have HB1 := Lib.hid (bel_step HB.out X.below)
      clear l0
      go_wp2_with fail
      go_roundw
      case rel => exact ⟨j, by omega, by go_num, by rw [HSt.out, ← HU.out], HB1.out⟩
      case measure => simp [intOf]

end Go.Proofs.Ytihneehceclffaa
