/- Contracts of package poly: the product of two short lists; no conditions but lengths. -/
import Derived.Test.YtjimnoikkgheaaaPolC
namespace Go.Proofs.Ytjimnoikkgheaaa
open Go.RowKit Gold

set_option maxHeartbeats 4000000 in
theorem longMul_any (A : Option Addr) (n c : Nat) (xs : List E2) (B : Option Addr) (m d : Nat) (ys : List E2) (w : World) (h : Sl w A n c xs) (h' : Sl w B m d ys) (hn : n ≤ 32768) (hm : m ≤ 32768) :
    Calls Try.prog 55 #[.slice A n c, .slice B m d] w fun e w' => ∃ A' m' c', e = .returned (.slice A' m' c') ∧ m' ≤ n + m ∧ Sl w' A' m' c' (mulE xs ys) ∧ Below w.heap.size w w' := by
  have hnc := h.cap
  have hct := h.top
  have hmd := h'.cap
  have hdt := h'.top
  have HL := Lib.hid h.len
  have HL' := Lib.hid h'.len
  have HS := Lib.hid h
  have HS' := Lib.hid h'
  clear h h'
  have hmk := run_makeE (n + m) (by omega)
  simp only [Int.natCast_add] at hmk
  generalize hr0 : List.replicate (n + m) E2.zero = r0 at hmk
  have HR0 := Lib.hid hr0
  clear hr0
  go_enter Try.func55, Try.ntmps55
  go_wp2_with fail
  clear hmk
  go_loopw [18] (fun s wr => ∃ k : Nat, k ≤ n ∧ s = .int .i64 k ∧ Row wr w.heap.size (allMul xs ys k r0) ∧ Below w.heap.size w wr) (fun s _ => n - (intOf s).toNat)
  case atStart => exact ⟨0, Nat.zero_le _, rfl, heap_new _ _, (Below.refl _ _).alloc (Nat.le_refl _) _⟩
  case round =>
    obtain ⟨k, hk, rfl, hr, hb⟩ := hrel
    have HR := Lib.hid hr
    have HB := Lib.hid hb
    clear hr hb
    by_cases hlt : k < n
    · obtain ⟨x, hx⟩ := HS.out.get hlt
      obtain ⟨ad, rfl, h0, h1⟩ := HS.out.at_ hx
      replace h0 := cell_keep h0 HB.out
      replace h1 := cell_keep h1 HB.out
      have HX := Lib.hid hx
      clear hx
      have hg := HR.out.lt
      go_wp2_with fail
      refine wp_named1 (fun W hBW gW hzW => ?_)
      have HT := Lib.hid (show Two W wr.heap.size 25 (.int .u64 (vF x.A)) (.int .u64 (vF x.B)) from gW)
      have HRW := Lib.hid (HR.out.keep hBW)
      have HBW := Lib.hid (below_step HB.out hBW)
      clear hBW gW h0 h1
      go_loopw [25] (fun s w2 => ∃ j : Nat, j ≤ m ∧ s = .int .i64 j ∧ Row w2 w.heap.size (rowMul x ys k j (allMul xs ys k r0)) ∧ Two w2 wr.heap.size 25 (.int .u64 (vF x.A)) (.int .u64 (vF x.B)) ∧ Below w.heap.size w w2) (fun s _ => m - (intOf s).toNat)
      case atStart => exact ⟨0, Nat.zero_le _, rfl, HRW.out, HT.out, HBW.out⟩
      case round =>
        clear HT HRW HBW
        obtain ⟨j, hj, rfl, hr2, ht2, hb2⟩ := hrel
        have HR2 := Lib.hid hr2
        have HT2 := Lib.hid ht2
        have HB2 := Lib.hid hb2
        clear hr2 ht2 hb2
        by_cases hltj : j < m
        · obtain ⟨y, hy⟩ := HS'.out.get hltj
          obtain ⟨ad2, rfl, h2, h3⟩ := HS'.out.at_ hy
          replace h2 := cell_keep h2 HB2.out
          replace h3 := cell_keep h3 HB2.out
          have HY := Lib.hid hy
          clear hy
          have hlen : k + j < (rowMul x ys k j (allMul xs ys k r0)).length := by rw [rowMul_length, allMul_length, ← HR0.out, List.length_replicate]; omega
          obtain ⟨z, hz⟩ : ∃ z, (rowMul x ys k j (allMul xs ys k r0))[k + j]? = some z := ⟨_, List.getElem?_eq_getElem hlen⟩
          have HZ := Lib.hid hz
          clear hz hlen
          go_wp2_with fail
          refine wp_named1 (fun W3 hB3 g3 hz3 => ?_)
          have HB3 := Lib.hid (below_step HB2.out hB3)
          have HR3 := Lib.hid (HR2.out.keep hB3)
          have HT3 := Lib.hid (HT2.out.keep hB3)
          have l0 := Later.cell HT3.out.c0
          have l1 := Later.cell HT3.out.c1
          have l2 := Later.cell (Two.c0 g3)
          have l3 := Later.cell (Two.c1 g3)
          have l4 := Later.cell (HR3.out.at_ HZ.out).1
          have l5 := Later.cell (HR3.out.at_ HZ.out).2
          clear hB3 g3 h2 h3
          have hk0 : (0 : Int) ≤ (k : Int) + (j : Int) := by omega
          have hk1 : (k : Int) + (j : Int) < (n : Int) + (m : Int) := by omega
          have hkw : IntKind.i64.wrap ((k : Int) + (j : Int)) = (k : Int) + (j : Int) := IntWalk.i64_in _ (by omega)
          have hkn : ((k : Int) + (j : Int)).toNat = k + j := by omega
          refine wp_later_tail 15 (by kernel_rfl) (by kernel_rfl) ?_
          simp only [List.take_succ_cons, List.take_zero, List.drop_succ_cons, List.drop_zero]
          repeat (go_big_quiet_step (first
            | (go_at_call 58; with_reducible exact Calls.later (extMul_any x y _))
            | (go_at_call 51; with_reducible exact Calls.later (extAdd_any z (x * y) _))))
          refine wpQuiet_nil ?_
          intro X
          clear l0 l1 l2 l3 l4 l5 hkw hkn hk0 hk1
          have HR4 := Lib.hid (HR3.out.keep X.below)
          have HT4 := Lib.hid (HT3.out.keep X.below)
          have HB4 := Lib.hid (below_step HB3.out X.below)
          clear HR3 HT3 HB3
          obtain ⟨c0, c1⟩ := HR4.out.at_ HZ.out
          have f0 := HR4.out.free ((k + j) * 2)
          have f1 := HR4.out.free ((k + j) * 2 + 1)
          go_wp2_with fail
          go_roundw
          case rel => exact ⟨j + 1, by omega, by go_num, by rw [rowMul, addAt, cfE_some HZ.out, cfE_some HY.out]; exact HR4.out.set (k + j) (z + x * y), (HT4.out.far _ (Nat.ne_of_gt hg)).far _ (Nat.ne_of_gt hg), (HB4.out.setCell (Nat.le_refl _) _).setCell (Nat.le_refl _) _⟩
          case measure => simp [intOf]; omega
        · have hjm : j = m := by omega
          go_wp2_with fail
          go_roundw
          case rel => exact ⟨k + 1, by omega, by go_num, by rw [allMul, cfE_some HX.out, ← HL'.out, ← hjm]; exact HR2.out, HB2.out⟩
          case measure => simp [intOf]; omega
    · have hkn : k = n := by omega
      subst hkn
      go_wp2_with (first
        | (go_at_call 49; ((with_reducible refine (cut_any _ _ _ (allMul xs ys k r0) _ (Row.slc (w := wr) (g := w.heap.size) HR.out (by rw [allMul_length, ← HR0.out, List.length_replicate]) (Nat.le_refl _) (by omega))).mono ?_)); rintro e W1 ⟨q, rfl, hq, hs, hb⟩; have HS := Lib.hid hs; clear hs))
      go_ret
      exact ⟨_, q, _, rfl, hq, by unfold mulE; rw [← HL.out, ← HL'.out, HR0.out]; exact HS.out, below_step HB.out hb⟩

set_option maxHeartbeats 400000 in
theorem polyMul_any (A : Option Addr) (n c : Nat) (xs : List E2) (B : Option Addr) (m d : Nat) (ys : List E2) (w : World) (h : Sl w A n c xs) (h' : Sl w B m d ys) (hn : n ≤ 24) (hm : m ≤ 24) :
    Calls Try.prog 23 #[.slice A n c, .slice B m d] w fun e w' => ∃ A' m' c', e = .returned (.slice A' m' c') ∧ m' ≤ n + m ∧ Sl w' A' m' c' (mulE (trimE xs) (trimE ys)) ∧ Below w.heap.size w w' := by
  have HS := Lib.hid h
  have HS' := Lib.hid h'
  clear h h'
  go_enter Try.func23, Try.ntmps23
  go_wp2_with fail
  refine (cut_any A n c xs _ HS.out).mono ?_
  rintro e W1 ⟨n1, rfl, hn1, hs, hb⟩
  have HS1 := Lib.hid hs
  have HB1 := Lib.hid hb
  clear hs hb
  go_wp2_with fail
  refine (cut_any B m d ys _ (HS'.out.keep HB1.out)).mono ?_
  rintro e W2 ⟨m1, rfl, hm1, hs, hb⟩
  have HS2 := Lib.hid hs
  have HB2 := Lib.hid (below_step HB1.out hb)
  have HS3 := Lib.hid (HS1.out.keep hb)
  clear hs hb
  by_cases hlt : m1 < n1
  all_goals
    go_wp2_with fail
    refine (longMul_any A n1 c _ B m1 d _ _ HS3.out HS2.out (by omega) (by omega)).mono ?_
    rintro e W3 ⟨A', q, c', rfl, hq, hs, hb⟩
    have HS4 := Lib.hid hs
    have HB3 := Lib.hid (below_step HB2.out hb)
    clear hs hb
    go_wp2_with fail
    go_ret
    exact ⟨A', q, c', rfl, by omega, HS4.out, HB3.out⟩

end Go.Proofs.Ytjimnoikkgheaaa
