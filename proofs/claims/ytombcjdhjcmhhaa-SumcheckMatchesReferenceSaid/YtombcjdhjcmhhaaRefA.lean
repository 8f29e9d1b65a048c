/- Contracts of the reference of package poly: made lists, trimming, comparison; no conditions but lengths. -/
import Derived.Test.YtombcjdhjcmhhaaApp
namespace Go.Proofs.Ytombcjdhjcmhhaa
set_option maxRecDepth 8000
open Go.RowKit Gold

set_option maxHeartbeats 1000000 in
theorem same_yes (A : Option Addr) (n c : Nat) (B : Option Addr) (m d : Nat) (xs : List E2) (w : World) (h : Sl w A n c xs) (h' : Sl w B m d xs) :
    Calls Try.prog 18 #[.slice A n c, .slice B m d] w fun e w' => e = .returned (.bool true) ∧ Below w.heap.size w w' := by
  have hm : m = n := h'.len.trans h.len.symm
  subst hm
  have hnc := h.cap
  have hct := h.top
  have hnd := h'.cap
  have hdt := h'.top
  have HS := Lib.hid h
  have HS' := Lib.hid h'
  clear h h'
  go_enter Try.func18, Try.ntmps18
  go_wp2_with fail
  go_loopw [5] (fun s wr => ∃ k : Nat, k ≤ m ∧ s = .int .i64 k ∧ Below w.heap.size w wr) (fun s _ => m - (intOf s).toNat)
  case atStart => exact ⟨0, Nat.zero_le _, rfl, Below.refl _ _⟩
  case round =>
    obtain ⟨k, hk, rfl, hb⟩ := hrel
    have HB := Lib.hid hb
    clear hb
    by_cases hlt : k < m
    · obtain ⟨x, hx⟩ := HS.out.get hlt
      obtain ⟨ad, rfl, h0, h1⟩ := HS.out.at_ hx
      obtain ⟨ad2, rfl, h2, h3⟩ := HS'.out.at_ hx
      have l0 := Later.cell (cell_keep h0 HB.out)
      have l1 := Later.cell (cell_keep h1 HB.out)
      have l2 := Later.cell (cell_keep h2 HB.out)
      have l3 := Later.cell (cell_keep h3 HB.out)
      clear hx h0 h1 h2 h3
      go_wp2_with fail
      refine wp_later_lex (by kernel_rfl) (lexOK_of (by kernel_rfl) (by kernel_rfl)) ?_
      repeat (go_big_quiet_step (fail))
      refine wpQuiet_nil ?_
      intro X
      clear l0 l1 l2 l3
      have HB1 := Lib.hid (below_step HB.out X.below)
      go_wp2_with fail
      go_roundw
      case rel => exact ⟨k + 1, by omega, by go_num, HB1.out⟩
      case measure => simp [intOf]; omega
    · go_wp2_with fail
      go_ret
      exact ⟨rfl, HB.out⟩

theorem trimE_nil (xs : List E2) : trimE (xs.take 0) = [] ++ xs.take 0 := rfl
set_option maxHeartbeats 1000000 in
theorem rTrim_own (A : Option Addr) (n c : Nat) (xs : List E2) (w : World) (h : Sl w A n c xs) (hn : n ≤ 65536) :
    Calls Try.prog 92 #[.slice A n c] w fun e w' => ∃ A' m c', e = .returned (.slice A' m c') ∧ m ≤ n ∧ OwE w' w.heap.size (.slice A' m c') m (trimE xs) ∧ Below w.heap.size w w' := by
  have hcap := h.cap
  have htop := h.top
  have HS := Lib.hid h
  have HT := Lib.hid (show trimE (xs.take n) = trimE xs by rw [h.len, List.take_length])
  clear h
  go_enter Try.func92, Try.ntmps92
  go_wp2_with fail
  go_loopw [3] (fun s3 wr => ∃ k : Nat, k ≤ n ∧ s3 = .int .i64 k ∧ trimE (xs.take k) = trimE xs ∧ Below w.heap.size w wr) (fun s3 _ => (intOf s3).toNat)
  case atStart => exact ⟨n, Nat.le_refl _, rfl, HT.out, Below.refl _ _⟩
  case round =>
    clear HT
    obtain ⟨k, hk, rfl, ht, hb⟩ := hrel
    have HT := Lib.hid ht
    have HB := Lib.hid hb
    clear ht hb
    cases k with
    | zero =>
      have HSZ := Lib.hid ((HS.out.keep HB.out).take (Nat.zero_le n))
      go_wp2_with (first
        | (at_builtin; refine wpList_appendAny rfl (.tmp 18) (.tmp 21) rfl w.heap.size _ 0 [] rfl (OwE.made wr w.heap.size HB.out.size) A 0 c (xs.take 0) rfl (HSZ.out.keep ((Below.refl _ _).alloc (Nat.le_refl _) _)) (by omega) (by have := HB.out.size; simp; omega) ?_; intro v1 w1 hown1 hg1; have HO := Lib.hid hown1; have HB1 := Lib.hid (below_grown (w0 := w) (HB.out.alloc HB.out.size _) hg1 (OwE.made wr w.heap.size HB.out.size) (Nat.le_refl _)); clear hown1 hg1))
      go_ret
      obtain ⟨A', c', rfl, hs⟩ := HO.out.sl
      clear hs
      exact ⟨A', _, c', rfl, by omega, by rw [← HT.out, trimE_nil]; exact HO.out, HB1.out⟩
    | succ j =>
      obtain ⟨x, hx⟩ := HS.out.get (show j < n by omega)
      obtain ⟨ad, rfl, h0, h1⟩ := HS.out.at_ hx
      replace h0 := cell_keep h0 HB.out
      replace h1 := cell_keep h1 HB.out
      have HX := Lib.hid hx
      clear hx
      cases he : ezero x with
      | true =>
        have HE := Lib.hid he
        go_wp2_with (first
          | (go_at_call 34; ((with_reducible refine (rIsZero_any x _).mono ?_)); rw [he]; rintro e W1 ⟨rfl, hb⟩))
        go_roundw
        case rel => exact ⟨j, by omega, by go_num, by rw [← HT.out]; exact (trimE_take_zero HX.out ((ezero_iff x).1 HE.out)).symm, below_step HB.out hb⟩
        case measure => simp [intOf]
      | false =>
        have HE := Lib.hid he
        go_wp2_with (first
          | (go_at_call 34; ((with_reducible refine (rIsZero_any x _).mono ?_)); rw [he]; rintro e W1 ⟨rfl, hb⟩; have HB0 := Lib.hid (below_step HB.out hb); have HSZ := Lib.hid ((HS.out.keep HB0.out).take (show j + 1 ≤ n by omega)); clear hb)
          | (at_builtin; refine wpList_appendAny rfl (.tmp 18) (.tmp 21) rfl w.heap.size _ 0 [] rfl (OwE.made W1 w.heap.size HB0.out.size) (some ad) (j + 1) c (xs.take (j + 1)) rfl (HSZ.out.keep ((Below.refl _ _).alloc (Nat.le_refl _) _)) (by omega) (by have := HB0.out.size; simp; omega) ?_; intro v1 w1 hown1 hg1; have HO := Lib.hid hown1; have HB1 := Lib.hid (below_grown (w0 := w) (HB0.out.alloc HB0.out.size _) hg1 (OwE.made W1 w.heap.size HB0.out.size) (Nat.le_refl _)); clear hown1 hg1))
        go_ret
        obtain ⟨A', c', rfl, hs⟩ := HO.out.sl
        clear hs
        exact ⟨A', _, c', rfl, by omega, by rw [← HT.out, trimE_take_stop HX.out (fun k => by rw [(ezero_iff x).2 k] at he; cases he)]; exact HO.out, HB1.out⟩
theorem rTrim_any (A : Option Addr) (n c : Nat) (xs : List E2) (w : World) (h : Sl w A n c xs) (hn : n ≤ 65536) :
    Calls Try.prog 92 #[.slice A n c] w fun e w' => ∃ A' m c', e = .returned (.slice A' m c') ∧ m ≤ n ∧ Sl w' A' m c' (trimE xs) ∧ Below w.heap.size w w' :=
  (rTrim_own A n c xs w h hn).mono fun _ _ ⟨A', m, c', he, hm, ho, hb⟩ => ⟨A', m, c', he, hm, ho.sl', hb⟩


end Go.Proofs.Ytombcjdhjcmhhaa
