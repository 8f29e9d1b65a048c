/- Contracts of the helpers of the laws of package mle: the tables and points that come in, elements of integers; no conditions but lengths. -/
import Derived.Test.YtipbfonlcmegdaaMra
import Derived.Test.YtipbfonlcmegdaaMrc
import Derived.Test.YtipbfonlcmegdaaLawA
namespace Go.Proofs.Ytipbfonlcmegdaa
set_option maxRecDepth 8000
open Go.RowKit Gold

/-- a table with K variables and two points, made in a world that has only added to w0 -/
structure Trio (w0 w : World) (K g M c1 : Nat) (xs : List E2) (A2 : Option Addr) (c2 : Nat) (ps : List E2) (A3 : Option Addr) (c3 : Nat) (ss : List E2) : Prop where
  k6 : K ≤ 6
  pow : M = 2 ^ K
  tab : Tab w g xs
  len : xs.length = M
  cap : M ≤ c1
  top : c1 ≤ 9223372036854775807
  own : ∃ B2, g < B2 ∧ w0.heap.size ≤ B2 ∧ OwE w B2 (.slice A2 K c2) K ps
  pts : Sl w A3 K c3 ss
  base : w0.heap.size ≤ g
section
variable {w0 w w' : World} {K g M c1 : Nat} {xs : List E2} {A2 : Option Addr} {c2 : Nat} {ps : List E2} {A3 : Option Addr} {c3 : Nat} {ss : List E2}
theorem Trio.keep (h : Trio w0 w K g M c1 xs A2 c2 ps A3 c3 ss) (hb : Below w.heap.size w w') : Trio w0 w' K g M c1 xs A2 c2 ps A3 c3 ss :=
  ⟨h.k6, h.pow, h.tab.keep hb, h.len, h.cap, h.top, by obtain ⟨B2, h1, h2, h3⟩ := h.own; exact ⟨B2, h1, h2, h3.keep hb⟩, h.pts.keep hb, h.base⟩
theorem Trio.t (h : Trio w0 w K g M c1 xs A2 c2 ps A3 c3 ss) : Sl w (some ⟨g, 0, none⟩) M c1 xs := h.tab.sl h.len.symm h.cap h.top
theorem Trio.p (h : Trio w0 w K g M c1 xs A2 c2 ps A3 c3 ss) : Sl w A2 K c2 ps := by obtain ⟨B2, _, _, h3⟩ := h.own; exact h3.sl'
theorem Trio.m64 (h : Trio w0 w K g M c1 xs A2 c2 ps A3 c3 ss) : M ≤ 64 := by rw [h.pow]; exact Nat.pow_le_pow_right (n := 2) (by omega) h.k6
theorem Trio.m0 (h : Trio w0 w K g M c1 xs A2 c2 ps A3 c3 ss) : 0 < M := by rw [h.pow]; exact Nat.two_pow_pos K
end

/-- the value of a query that comes in -/
def qval (A : Option Addr) (n c : Nat) (B : Option Addr) (m d : Nat) (C : Option Addr) (k e : Nat) (N : Int) : Value := .agg #[.slice A n c, .slice B m d, .slice C k e, .int .u8 N]
set_option maxHeartbeats 4000000 in
theorem made_any (A : Option Addr) (n c : Nat) (ts : List (Int × Int)) (B : Option Addr) (m d : Nat) (us : List (Int × Int)) (C : Option Addr) (k e : Nat) (vs : List (Int × Int)) (N : Int) (w : World)
    (hT : Sr w A n c ts) (hU : Sr w B m d us) (hV : Sr w C k e vs) (wT : Nums ts) (wU : Nums us) (wV : Nums vs) (hN : 0 ≤ N ∧ N ≤ 255) :
    Calls Try.prog 11 #[.agg #[.slice A n c, .slice B m d, .slice C k e, .int .u8 N]] w fun e w' => ∃ (K g M c1 : Nat) (xs : List E2) (A2 : Option Addr) (c2 : Nat) (ps : List E2) (A3 : Option Addr) (c3 : Nat) (ss : List E2), e = .returned (.tuple #[.slice (some ⟨g, 0, none⟩) M c1, .slice A2 K c2, .slice A3 K c3]) ∧ Trio w w' K g M c1 xs A2 c2 ps A3 c3 ss ∧ Below w.heap.size w w' := by
  have HT := Lib.hid hT
  have HU := Lib.hid hU
  have HV := Lib.hid hV
  have WT := Lib.hid wT
  have WU := Lib.hid wU
  have WV := Lib.hid wV
  clear hT hU hV wT wU wV
  obtain ⟨K, hK⟩ : ∃ K : Nat, N % 7 = (K : Int) := ⟨(N % 7).toNat, by omega⟩
  have hK6 : K ≤ 6 := by omega
  go_enter Try.func11, Try.ntmps11
  go_wp2_with fail
  refine wp_named1 (fun V hbV g0 hzV => ?_)
  have HT1 := Lib.hid (HT.out.keep hbV)
  have HU1 := Lib.hid (HU.out.keep hbV)
  have HV1 := Lib.hid (HV.out.keep hbV)
  have HBV := Lib.hid hbV
  have b0 : V.cell? ⟨w.heap.size, 0, none⟩ = some (.slice A n c) := by simp [World.cell?, g0]
  have b1 : V.cell? ⟨w.heap.size, 1, none⟩ = some (.slice B m d) := by simp [World.cell?, g0]
  have b2 : V.cell? ⟨w.heap.size, 2, none⟩ = some (.slice C k e) := by simp [World.cell?, g0]
  have l0 := LaterB.cell (B := w.heap.size + 1) b0 (Nat.lt_succ_self _)
  have l1 := LaterB.cell (B := w.heap.size + 1) b1 (Nat.lt_succ_self _)
  have l2 := LaterB.cell (B := w.heap.size + 1) b2 (Nat.lt_succ_self _)
  clear g0 hbV b0 b1 b2 HT HU HV
  refine wp_heldB (w.heap.size + 1) (by kernel_rfl) (lexOK_of (by kernel_rfl) (by kernel_rfl)) (chainOK_of (by kernel_rfl)) (fun W hbW hSW => ?_)
  have HT2 := Lib.hid (HT1.out.keep hbW)
  have HU2 := Lib.hid (HU1.out.keep hbW)
  have HV2 := Lib.hid (HV1.out.keep hbW)
  have HB2 := Lib.hid (below_step HBV.out hbW)
  have HS2 := Lib.hid hSW
  have hz2 : w.heap.size + 1 ≤ W.heap.size := Nat.le_trans hzV hbW.size
  clear hbW hSW HT1 HU1 HV1
  refine wpHeld_seg 3 HS2.out (by kernel_rfl) ?_
  simp only [List.take_succ_cons, List.take_zero, List.drop_succ_cons, List.drop_zero]
  repeat (go_big_quiet_step (fail))
  refine wpQuiet_nil ?_
  refine wpHeld_call 12 Try.func12 (by kernel_rfl) (by kernel_rfl) _ _ #[.slice A n c, .int .i64 (K : Int)] rfl (by kernel_rfl) (by kernel_rfl) ?_
  refine (rTabMade_any A n c ts K _ HT2.out WT.out (by omega)).mono ?_
  rintro e1 W3 ⟨A1, M, c1, xs, rfl, hM, hx, hb⟩
  have HU3 := Lib.hid (HU2.out.keep hb)
  have HV3 := Lib.hid (HV2.out.keep hb)
  have HB3 := Lib.hid (below_step HB2.out hb)
  have HS3 := Lib.hid (LaterB.step HS2.out (hb.mono hz2))
  have hz3 : w.heap.size + 1 ≤ W3.heap.size := Nat.le_trans hz2 hb.size
  have HX3 := Lib.hid hx
  have HM := Lib.hid hM
  clear hb hx hM HU2 HV2 HB2
  refine ⟨_, rfl, HS3.out, ?_⟩
  simp only [Act.put, List.setIfInBounds_toArray, List.set_cons_zero, List.set_cons_succ]
  refine wpHeld_seg 3 HS3.out (by kernel_rfl) ?_
  simp only [List.take_succ_cons, List.take_zero, List.drop_succ_cons, List.drop_zero]
  repeat (go_big_quiet_step (fail))
  refine wpQuiet_nil ?_
  refine wpHeld_call 58 Try.func58 (by kernel_rfl) (by kernel_rfl) _ _ #[.slice B m d, .int .i64 (K : Int)] rfl (by kernel_rfl) (by kernel_rfl) ?_
  refine (rMadeAll_any B m d us K _ HU3.out WU.out (by omega)).mono ?_
  rintro e2 W4 ⟨A2, c2, ps, rfl, hp, hb⟩
  have HV4 := Lib.hid (HV3.out.keep hb)
  have HB4 := Lib.hid (below_step HB3.out hb)
  have HS4 := Lib.hid (LaterB.step HS3.out (hb.mono hz3))
  have hz4 : w.heap.size + 1 ≤ W4.heap.size := Nat.le_trans hz3 hb.size
  have HX4 := Lib.hid (HX3.out.keep hb)
  have HP4 := Lib.hid hp
  have hl3 : ∀ q, (Value.slice A1 M c1).ownBlock = some q → q < W3.heap.size := fun q hq => (World.ownsRow.lt HX3.out q hq).2
  clear hb hp HV3 HB3
  refine ⟨_, rfl, HS4.out, ?_⟩
  simp only [Act.put, List.setIfInBounds_toArray, List.set_cons_zero, List.set_cons_succ]
  refine wpHeld_seg 3 HS4.out (by kernel_rfl) ?_
  simp only [List.take_succ_cons, List.take_zero, List.drop_succ_cons, List.drop_zero]
  repeat (go_big_quiet_step (fail))
  refine wpQuiet_nil ?_
  refine wpHeld_call 58 Try.func58 (by kernel_rfl) (by kernel_rfl) _ _ #[.slice C k e, .int .i64 (K : Int)] rfl (by kernel_rfl) (by kernel_rfl) ?_
  refine (rMadeAll_any C k e vs K _ HV4.out WV.out (by omega)).mono ?_
  rintro e3 W5 ⟨A3, c3, ss, rfl, hs, hb⟩
  have HB5 := Lib.hid (below_step HB4.out hb)
  have HS5 := Lib.hid (LaterB.step HS4.out (hb.mono hz4))
  have HX5 := Lib.hid (HX4.out.keep hb)
  have HP5 := Lib.hid (HP4.out.keep hb)
  have HQ5 := Lib.hid hs.sl'
  clear hb hs HV4 HB4
  refine ⟨_, rfl, HS5.out, ?_⟩
  simp only [Act.put, List.setIfInBounds_toArray, List.set_cons_zero, List.set_cons_succ]
  refine wpHeld_seg 3 HS5.out (by kernel_rfl) ?_
  simp only [List.take_succ_cons, List.take_zero, List.drop_succ_cons, List.drop_zero]
  repeat (go_big_quiet_step (fail))
  refine wpQuiet_nil (wpHeld_nil ?_)
  clear l0 l1 l2
  obtain ⟨g, c1', e1, hg, hc, ht, hT⟩ := HX5.out.tab (by rw [HM.out]; exact Nat.two_pow_pos K)
  injection e1 with e1 e2 e3
  subst e1
  subst e3
  have hgl := hl3 g rfl
  have HTr := Lib.hid (show Trio w W5 K g M c1 xs A2 c2 ps A3 c3 ss from ⟨hK6, HM.out, hT, HX5.out.len.symm, hc, ht, ⟨_, hgl, by omega, HP5.out⟩, HQ5.out, by omega⟩)
  clear hT hc ht hg e2 hgl hl3
  go_wp2_with fail
  refine bodyPost_ret (v := .tuple #[.slice (some ⟨g, 0, none⟩) M c1, .slice A2 K c2, .slice A3 K c3]) (by simp [results, Try.results11, go_sem]) rfl ?_
  exact ⟨K, g, M, c1, xs, A2, c2, ps, A3, c3, ss, rfl, HTr.out, HB5.out⟩

set_option maxHeartbeats 1000000 in
theorem ints5_any (A : Option Addr) (n c : Nat) (zs : List Int) (w : World) (h : Sz w A n c zs) (hw : ∀ z, z ∈ zs → -9223372036854775808 ≤ z ∧ z < 9223372036854775808) (hn : n ≤ 65536) :
    Calls Try.prog 48 #[.slice A n c] w fun e w' => ∃ A' c', e = .returned (.slice A' n c') ∧ Sl w' A' n c' (zs.map ndZ) ∧ Below w.heap.size w w' := by
  have hnc := h.cap
  have hct := h.top
  have HL := Lib.hid h.len
  have HS := Lib.hid h
  have HW := Lib.hid hw
  clear h hw
  go_enter Try.func48, Try.ntmps48
  go_wp2_with fail
  go_loopw [3, 4] (fun v i wr => ∃ k : Nat, k ≤ n ∧ i = .int .i64 k ∧ OwE wr w.heap.size v k ((zs.take k).map ndZ) ∧ Below w.heap.size w wr) (fun _ i _ => n - (intOf i).toNat)
  case atStart => exact ⟨0, Nat.zero_le _, rfl, OwE.made w w.heap.size (Nat.le_refl _), (Below.refl _ _).alloc (Nat.le_refl _) _⟩
  case round =>
    obtain ⟨k, hk, rfl, ho, hb⟩ := hrel
    have HO := Lib.hid ho
    have HB := Lib.hid hb
    clear ho hb
    by_cases hlt : k < n
    · obtain ⟨z, hz⟩ : ∃ z, zs[k]? = some z := ⟨zs[k]'(by have := HL.out; omega), List.getElem?_eq_getElem _⟩
      obtain ⟨ad, rfl, h0⟩ := HS.out.cells k z hz
      replace h0 := cell_keep h0 HB.out
      have hzw := HW.out z (List.mem_of_getElem? hz)
      have HX := Lib.hid hz
      clear hz
      go_wp2_with fail
      refine (rFromInt_any z _ hzw.1 hzw.2).mono ?_
      rintro e W1 ⟨rfl, hb⟩
      have HO1 := Lib.hid (HO.out.keep hb)
      have HB1 := Lib.hid (below_step HB.out hb)
      clear hb h0 hzw
      go_wp2_with (at_builtin; refine wpList_appendE rfl (.tmp 12) (.tmp 18) rfl (w.heap.size) _ k _ rfl (HO1.out.keep ((Below.refl _ _).alloc (Nat.le_refl _) _)) W1.heap.size 1 (ndZ z) rfl (Two.new W1 _ _ _) (by omega) (by have := HB1.out.size; simp; omega) ?_; intro v1 w1 hown1 hg1; have HO2 := Lib.hid hown1; have HB2 := Lib.hid (below_grown (w0 := w) (HB1.out.alloc HB1.out.size _) hg1 (HO1.out.keep ((Below.refl _ _).alloc (Nat.le_refl _) _)) (Nat.le_refl _)); clear hown1 hg1)
      go_roundw
      case rel => exact ⟨k + 1, by omega, by go_num, by rw [List.take_succ_eq_append_getElem (by have := HL.out; omega), List.map_append, (List.getElem?_eq_some_iff.1 HX.out).2]; exact HO2.out, HB2.out⟩
      case measure => simp [intOf]; omega
    · have hkn : k = n := by omega
      subst hkn
      obtain ⟨A1, c1, rfl, hs1⟩ := HO.out.sl
      have HSQ := Lib.hid hs1
      clear hs1
      go_wp2_with fail
      go_ret
      exact ⟨A1, c1, rfl, by have := HSQ.out; rw [HL.out, List.take_length, ← HL.out] at this; exact this, HB.out⟩

end Go.Proofs.Ytipbfonlcmegdaa
