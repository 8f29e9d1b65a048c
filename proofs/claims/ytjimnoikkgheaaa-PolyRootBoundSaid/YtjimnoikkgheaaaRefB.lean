/- Contracts of the reference of package poly: sums, multiples, differences, products; no conditions but lengths. -/
import Derived.Test.YtjimnoikkgheaaaRefA
namespace Go.Proofs.Ytjimnoikkgheaaa
open Go.RowKit Gold


set_option maxHeartbeats 2000000 in
theorem rPAdd_any (A : Option Addr) (n c : Nat) (xs : List E2) (B : Option Addr) (m d : Nat) (ys : List E2) (w : World) (h : Sl w A n c xs) (h' : Sl w B m d ys) (hn : n ≤ 65536) (hm : m ≤ 65536) :
    Calls Try.prog 20 #[.slice A n c, .slice B m d] w fun e w' => ∃ A' m' c', e = .returned (.slice A' m' c') ∧ m' ≤ max n m ∧ Sl w' A' m' c' (addE xs ys) ∧ Below w.heap.size w w' := by
  have hnc := h.cap
  have hct := h.top
  have hmd := h'.cap
  have hdt := h'.top
  have HL := Lib.hid h.len
  have HL' := Lib.hid h'.len
  have HS := Lib.hid h
  have HS' := Lib.hid h'
  clear h h'
  by_cases hlt : n < m
  · have hmk := run_makeE m (by omega)
    generalize hr0 : List.replicate m E2.zero = r0 at hmk
    have HR0 := Lib.hid hr0
    clear hr0
    go_enter Try.func20, Try.ntmps20
    go_wp2_with fail
    clear hmk
    go_loopw [6] (fun s wr => ∃ k : Nat, k ≤ m ∧ s = .int .i64 k ∧ Row wr w.heap.size (tabE k (fun i => cfE xs i + cfE ys i) ++ List.replicate (m - k) E2.zero) ∧ Below w.heap.size w wr) (fun s _ => m - (intOf s).toNat)
    case atStart => exact ⟨0, Nat.zero_le _, rfl, by rw [tab_start, HR0.out]; exact heap_new _ _, (Below.refl _ _).alloc (Nat.le_refl _) _⟩
    case round =>
      obtain ⟨k, hk, rfl, hr, hb⟩ := hrel
      have HR := Lib.hid hr
      have HB := Lib.hid hb
      clear hr hb
      by_cases hkn : k < n
      · by_cases hkm' : k < m
        · have hkm : k < m := by omega
          have HZ := Lib.hid (tab_at (n := m) (fun i => cfE xs i + cfE ys i) hkm)
          obtain ⟨x, hx⟩ := HS.out.get (by assumption)
          obtain ⟨ad, rfl, h0, h1⟩ := HS.out.at_ hx
          have Hx0 := Lib.hid h0
          have Hx1 := Lib.hid h1
          have HX := Lib.hid hx
          clear hx h0 h1
          obtain ⟨y, hx⟩ := HS'.out.get (by assumption)
          obtain ⟨ad2, rfl, h0, h1⟩ := HS'.out.at_ hx
          have Hy0 := Lib.hid h0
          have Hy1 := Lib.hid h1
          have HY := Lib.hid hx
          clear hx h0 h1
          have hk0 : (0 : Int) ≤ (k : Int) := by omega
          have hk1 : (k : Int) < (n : Int) := by omega
          have hk2 : (k : Int) < (m : Int) := by omega
          have hk3 : (k : Int) < (m : Int) := by omega
          go_wp2_with fail
          have l0 := Later.cell (HR.out.at_ HZ.out).1
          have l1 := Later.cell (HR.out.at_ HZ.out).2
          have l2 := Later.cell (cell_keep Hx0.out HB.out)
          have l3 := Later.cell (cell_keep Hx1.out HB.out)
          refine wp_later_tail 12 (by kernel_rfl) (by kernel_rfl) ?_
          simp only [List.take_succ_cons, List.take_zero, List.drop_succ_cons, List.drop_zero]
          repeat (go_big_quiet_step (first
            | (go_at_call 37; with_reducible exact Calls.later (rAdd_any (E2.zero) (x) _))))
          refine wpQuiet_nil ?_
          intro X
          clear l0 l1 l2 l3
          have HRX := Lib.hid (HR.out.keep X.below)
          have HBX := Lib.hid (below_step HB.out X.below)
          obtain ⟨c0, c1⟩ := HRX.out.at_ HZ.out
          have f0 := HRX.out.free ((k) * 2)
          have f1 := HRX.out.free ((k) * 2 + 1)
          go_wp2_with fail
          refine wp_named (fun W5 => Row W5 w.heap.size ((tabE k (fun i => cfE xs i + cfE ys i) ++ List.replicate (m - k) E2.zero).set k (E2.zero + x)) ∧ Below w.heap.size w W5)
            ⟨HRX.out.set k (E2.zero + x), (HBX.out.setCell (Nat.le_refl _) _).setCell (Nat.le_refl _) _⟩ ?_
          rintro W5 ⟨hr5, hb5⟩
          replace HR := Lib.hid hr5
          replace HB := Lib.hid hb5
          have HZ5 := Lib.hid (set_at (E2.zero + x) HZ.out)
          clear hr5 hb5 c0 c1 f0 f1 HRX HBX
          have l0 := Later.cell (HR.out.at_ HZ5.out).1
          have l1 := Later.cell (HR.out.at_ HZ5.out).2
          have l2 := Later.cell (cell_keep Hy0.out HB.out)
          have l3 := Later.cell (cell_keep Hy1.out HB.out)
          refine wp_later_tail 12 (by kernel_rfl) (by kernel_rfl) ?_
          simp only [List.take_succ_cons, List.take_zero, List.drop_succ_cons, List.drop_zero]
          repeat (go_big_quiet_step (first
            | (go_at_call 37; with_reducible exact Calls.later (rAdd_any (E2.zero + x) (y) _))))
          refine wpQuiet_nil ?_
          intro X
          clear l0 l1 l2 l3
          have HRX := Lib.hid (HR.out.keep X.below)
          have HBX := Lib.hid (below_step HB.out X.below)
          obtain ⟨c0, c1⟩ := HRX.out.at_ HZ5.out
          have f0 := HRX.out.free ((k) * 2)
          have f1 := HRX.out.free ((k) * 2 + 1)
          go_wp2_with fail
          have heq : E2.zero + x + y = cfE xs k + cfE ys k := by rw [cfE_some HX.out, cfE_some HY.out, E2.zero_add]
          go_roundw
          case rel => exact ⟨k + 1, by omega, by go_num, by rw [← tab_step (n := m) (fun i => cfE xs i + cfE ys i) hkm, ← heq]; have := HRX.out.set k (E2.zero + x + y); rw [List.set_set] at this; exact this, (HBX.out.setCell (Nat.le_refl _) _).setCell (Nat.le_refl _) _⟩
          case measure => simp [intOf]; omega
        · exact absurd hkn (by omega)
      · by_cases hkm' : k < m
        · have hkm : k < m := by omega
          have HZ := Lib.hid (tab_at (n := m) (fun i => cfE xs i + cfE ys i) hkm)
          obtain ⟨y, hx⟩ := HS'.out.get (by assumption)
          obtain ⟨ad2, rfl, h0, h1⟩ := HS'.out.at_ hx
          have Hy0 := Lib.hid h0
          have Hy1 := Lib.hid h1
          have HY := Lib.hid hx
          clear hx h0 h1
          have hk0 : (0 : Int) ≤ (k : Int) := by omega
          have hk2 : (k : Int) < (m : Int) := by omega
          have hk3 : (k : Int) < (m : Int) := by omega
          go_wp2_with fail
          have l0 := Later.cell (HR.out.at_ HZ.out).1
          have l1 := Later.cell (HR.out.at_ HZ.out).2
          have l2 := Later.cell (cell_keep Hy0.out HB.out)
          have l3 := Later.cell (cell_keep Hy1.out HB.out)
          refine wp_later_tail 12 (by kernel_rfl) (by kernel_rfl) ?_
          simp only [List.take_succ_cons, List.take_zero, List.drop_succ_cons, List.drop_zero]
          repeat (go_big_quiet_step (first
            | (go_at_call 37; with_reducible exact Calls.later (rAdd_any (E2.zero) (y) _))))
          refine wpQuiet_nil ?_
          intro X
          clear l0 l1 l2 l3
          have HRX := Lib.hid (HR.out.keep X.below)
          have HBX := Lib.hid (below_step HB.out X.below)
          obtain ⟨c0, c1⟩ := HRX.out.at_ HZ.out
          have f0 := HRX.out.free ((k) * 2)
          have f1 := HRX.out.free ((k) * 2 + 1)
          go_wp2_with fail
          have heq : E2.zero + y = cfE xs k + cfE ys k := by rw [cfE_some HY.out, cfE_ge (by have := HL.out; omega)]
          go_roundw
          case rel => exact ⟨k + 1, by omega, by go_num, by rw [← tab_step (n := m) (fun i => cfE xs i + cfE ys i) hkm, ← heq]; exact HRX.out.set k (E2.zero + y), (HBX.out.setCell (Nat.le_refl _) _).setCell (Nat.le_refl _) _⟩
          case measure => simp [intOf]; omega
        · have hkM : k = m := by omega
          subst hkM
          have HSQ := Lib.hid (Row.slc HR.out (tab_len (fun i => cfE xs i + cfE ys i) (Nat.le_refl _)).symm (Nat.le_refl _) (by omega))
          go_wp2_with fail
          refine (rTrim_any _ _ _ _ _ HSQ.out (by omega)).mono ?_
          rintro e W1 ⟨A', m', c', rfl, hm', hs, hb⟩
          have HS1 := Lib.hid hs
          clear hs
          go_wp2_with fail
          go_ret
          refine ⟨A', m', c', rfl, by omega, ?_, below_step HB.out hb⟩
          have h9 := HS1.out
          rw [tab_end] at h9
          unfold addE
          rw [← HL.out, ← HL'.out, show max n k = k by omega]
          exact h9
  · have hmk := run_makeE n (by omega)
    generalize hr0 : List.replicate n E2.zero = r0 at hmk
    have HR0 := Lib.hid hr0
    clear hr0
    go_enter Try.func20, Try.ntmps20
    go_wp2_with fail
    clear hmk
    go_loopw [6] (fun s wr => ∃ k : Nat, k ≤ n ∧ s = .int .i64 k ∧ Row wr w.heap.size (tabE k (fun i => cfE xs i + cfE ys i) ++ List.replicate (n - k) E2.zero) ∧ Below w.heap.size w wr) (fun s _ => n - (intOf s).toNat)
    case atStart => exact ⟨0, Nat.zero_le _, rfl, by rw [tab_start, HR0.out]; exact heap_new _ _, (Below.refl _ _).alloc (Nat.le_refl _) _⟩
    case round =>
      obtain ⟨k, hk, rfl, hr, hb⟩ := hrel
      have HR := Lib.hid hr
      have HB := Lib.hid hb
      clear hr hb
      by_cases hkn : k < n
      · by_cases hkm' : k < m
        · have hkm : k < n := by omega
          have HZ := Lib.hid (tab_at (n := n) (fun i => cfE xs i + cfE ys i) hkm)
          obtain ⟨x, hx⟩ := HS.out.get (by assumption)
          obtain ⟨ad, rfl, h0, h1⟩ := HS.out.at_ hx
          have Hx0 := Lib.hid h0
          have Hx1 := Lib.hid h1
          have HX := Lib.hid hx
          clear hx h0 h1
          obtain ⟨y, hx⟩ := HS'.out.get (by assumption)
          obtain ⟨ad2, rfl, h0, h1⟩ := HS'.out.at_ hx
          have Hy0 := Lib.hid h0
          have Hy1 := Lib.hid h1
          have HY := Lib.hid hx
          clear hx h0 h1
          have hk0 : (0 : Int) ≤ (k : Int) := by omega
          have hk1 : (k : Int) < (n : Int) := by omega
          have hk2 : (k : Int) < (m : Int) := by omega
          have hk3 : (k : Int) < (n : Int) := by omega
          go_wp2_with fail
          have l0 := Later.cell (HR.out.at_ HZ.out).1
          have l1 := Later.cell (HR.out.at_ HZ.out).2
          have l2 := Later.cell (cell_keep Hx0.out HB.out)
          have l3 := Later.cell (cell_keep Hx1.out HB.out)
          refine wp_later_tail 12 (by kernel_rfl) (by kernel_rfl) ?_
          simp only [List.take_succ_cons, List.take_zero, List.drop_succ_cons, List.drop_zero]
          repeat (go_big_quiet_step (first
            | (go_at_call 37; with_reducible exact Calls.later (rAdd_any (E2.zero) (x) _))))
          refine wpQuiet_nil ?_
          intro X
          clear l0 l1 l2 l3
          have HRX := Lib.hid (HR.out.keep X.below)
          have HBX := Lib.hid (below_step HB.out X.below)
          obtain ⟨c0, c1⟩ := HRX.out.at_ HZ.out
          have f0 := HRX.out.free ((k) * 2)
          have f1 := HRX.out.free ((k) * 2 + 1)
          go_wp2_with fail
          refine wp_named (fun W5 => Row W5 w.heap.size ((tabE k (fun i => cfE xs i + cfE ys i) ++ List.replicate (n - k) E2.zero).set k (E2.zero + x)) ∧ Below w.heap.size w W5)
            ⟨HRX.out.set k (E2.zero + x), (HBX.out.setCell (Nat.le_refl _) _).setCell (Nat.le_refl _) _⟩ ?_
          rintro W5 ⟨hr5, hb5⟩
          replace HR := Lib.hid hr5
          replace HB := Lib.hid hb5
          have HZ5 := Lib.hid (set_at (E2.zero + x) HZ.out)
          clear hr5 hb5 c0 c1 f0 f1 HRX HBX
          have l0 := Later.cell (HR.out.at_ HZ5.out).1
          have l1 := Later.cell (HR.out.at_ HZ5.out).2
          have l2 := Later.cell (cell_keep Hy0.out HB.out)
          have l3 := Later.cell (cell_keep Hy1.out HB.out)
          refine wp_later_tail 12 (by kernel_rfl) (by kernel_rfl) ?_
          simp only [List.take_succ_cons, List.take_zero, List.drop_succ_cons, List.drop_zero]
          repeat (go_big_quiet_step (first
            | (go_at_call 37; with_reducible exact Calls.later (rAdd_any (E2.zero + x) (y) _))))
          refine wpQuiet_nil ?_
          intro X
          clear l0 l1 l2 l3
          have HRX := Lib.hid (HR.out.keep X.below)
          have HBX := Lib.hid (below_step HB.out X.below)
          obtain ⟨c0, c1⟩ := HRX.out.at_ HZ5.out
          have f0 := HRX.out.free ((k) * 2)
          have f1 := HRX.out.free ((k) * 2 + 1)
          go_wp2_with fail
          have heq : E2.zero + x + y = cfE xs k + cfE ys k := by rw [cfE_some HX.out, cfE_some HY.out, E2.zero_add]
          go_roundw
          case rel => exact ⟨k + 1, by omega, by go_num, by rw [← tab_step (n := n) (fun i => cfE xs i + cfE ys i) hkm, ← heq]; have := HRX.out.set k (E2.zero + x + y); rw [List.set_set] at this; exact this, (HBX.out.setCell (Nat.le_refl _) _).setCell (Nat.le_refl _) _⟩
          case measure => simp [intOf]; omega
        · have hkm : k < n := by omega
          have HZ := Lib.hid (tab_at (n := n) (fun i => cfE xs i + cfE ys i) hkm)
          obtain ⟨x, hx⟩ := HS.out.get (by assumption)
          obtain ⟨ad, rfl, h0, h1⟩ := HS.out.at_ hx
          have Hx0 := Lib.hid h0
          have Hx1 := Lib.hid h1
          have HX := Lib.hid hx
          clear hx h0 h1
          have hk0 : (0 : Int) ≤ (k : Int) := by omega
          have hk1 : (k : Int) < (n : Int) := by omega
          have hk3 : (k : Int) < (n : Int) := by omega
          go_wp2_with fail
          have l0 := Later.cell (HR.out.at_ HZ.out).1
          have l1 := Later.cell (HR.out.at_ HZ.out).2
          have l2 := Later.cell (cell_keep Hx0.out HB.out)
          have l3 := Later.cell (cell_keep Hx1.out HB.out)
          refine wp_later_tail 12 (by kernel_rfl) (by kernel_rfl) ?_
          simp only [List.take_succ_cons, List.take_zero, List.drop_succ_cons, List.drop_zero]
          repeat (go_big_quiet_step (first
            | (go_at_call 37; with_reducible exact Calls.later (rAdd_any (E2.zero) (x) _))))
          refine wpQuiet_nil ?_
          intro X
          clear l0 l1 l2 l3
          have HRX := Lib.hid (HR.out.keep X.below)
          have HBX := Lib.hid (below_step HB.out X.below)
          obtain ⟨c0, c1⟩ := HRX.out.at_ HZ.out
          have f0 := HRX.out.free ((k) * 2)
          have f1 := HRX.out.free ((k) * 2 + 1)
          go_wp2_with fail
          have heq : E2.zero + x = cfE xs k + cfE ys k := by rw [cfE_some HX.out, cfE_ge (by have := HL'.out; omega), E2.zero_add, E2.add_zero]
          go_roundw
          case rel => exact ⟨k + 1, by omega, by go_num, by rw [← tab_step (n := n) (fun i => cfE xs i + cfE ys i) hkm, ← heq]; exact HRX.out.set k (E2.zero + x), (HBX.out.setCell (Nat.le_refl _) _).setCell (Nat.le_refl _) _⟩
          case measure => simp [intOf]; omega
      · by_cases hkm' : k < m
        · exact absurd hkm' (by omega)
        · have hkM : k = n := by omega
          subst hkM
          have HSQ := Lib.hid (Row.slc HR.out (tab_len (fun i => cfE xs i + cfE ys i) (Nat.le_refl _)).symm (Nat.le_refl _) (by omega))
          go_wp2_with fail
          refine (rTrim_any _ _ _ _ _ HSQ.out (by omega)).mono ?_
          rintro e W1 ⟨A', m', c', rfl, hm', hs, hb⟩
          have HS1 := Lib.hid hs
          clear hs
          go_wp2_with fail
          go_ret
          refine ⟨A', m', c', rfl, by omega, ?_, below_step HB.out hb⟩
          have h9 := HS1.out
          rw [tab_end] at h9
          unfold addE
          rw [← HL.out, ← HL'.out, show max k m = k by omega]
          exact h9

set_option maxHeartbeats 4000000 in
theorem rPMul_any (A : Option Addr) (n c : Nat) (xs : List E2) (B : Option Addr) (m d : Nat) (ys : List E2) (w : World) (h : Sl w A n c xs) (h' : Sl w B m d ys) (hn : n ≤ 32768) (hm : m ≤ 32768) :
    Calls Try.prog 24 #[.slice A n c, .slice B m d] w fun e w' => ∃ A' m' c', e = .returned (.slice A' m' c') ∧ m' ≤ n + m ∧ Sl w' A' m' c' (mulE xs ys) ∧ Below w.heap.size w w' := by
  have hnc := h.cap
  have hct := h.top
  have hmd := h'.cap
  have hdt := h'.top
  have HL := Lib.hid h.len
  have HL' := Lib.hid h'.len
  have HS := Lib.hid h
  have HS' := Lib.hid h'
  clear h h'
  have hmk := run_makeE (n + m) (by omega)
  simp only [Int.natCast_add] at hmk
  generalize hr0 : List.replicate (n + m) E2.zero = r0 at hmk
  have HR0 := Lib.hid hr0
  clear hr0
  go_enter Try.func24, Try.ntmps24
  go_wp2_with fail
  clear hmk
  go_loopw [6] (fun s wr => ∃ k : Nat, k ≤ n ∧ s = .int .i64 k ∧ Row wr w.heap.size (allMul xs ys k r0) ∧ Below w.heap.size w wr) (fun s _ => n - (intOf s).toNat)
  case atStart => exact ⟨0, Nat.zero_le _, rfl, heap_new _ _, (Below.refl _ _).alloc (Nat.le_refl _) _⟩
  case round =>
    obtain ⟨k, hk, rfl, hr, hb⟩ := hrel
    have HRO := Lib.hid hr
    have HBO := Lib.hid hb
    clear hr hb
    by_cases hlt : k < n
    · obtain ⟨x, hx⟩ := HS.out.get hlt
      obtain ⟨ad, rfl, h0, h1⟩ := HS.out.at_ hx
      have Hx0 := Lib.hid h0
      have Hx1 := Lib.hid h1
      have HX := Lib.hid hx
      clear hx h0 h1
      go_wp2_with fail
      go_loopw [7] (fun s w2 => ∃ j : Nat, j ≤ m ∧ s = .int .i64 j ∧ Row w2 w.heap.size (rowMul x ys k j (allMul xs ys k r0)) ∧ Below w.heap.size w w2) (fun s _ => m - (intOf s).toNat)
      case atStart => exact ⟨0, Nat.zero_le _, rfl, HRO.out, HBO.out⟩
      case round =>
        clear HRO HBO
        obtain ⟨j, hj, rfl, hr2, hb2⟩ := hrel
        have HR := Lib.hid hr2
        have HB := Lib.hid hb2
        clear hr2 hb2
        by_cases hltj : j < m
        · obtain ⟨y, hy⟩ := HS'.out.get hltj
          obtain ⟨ad2, rfl, h2, h3⟩ := HS'.out.at_ hy
          have Hy0 := Lib.hid h2
          have Hy1 := Lib.hid h3
          have HY := Lib.hid hy
          clear hy h2 h3
          have hlen : k + j < (rowMul x ys k j (allMul xs ys k r0)).length := by rw [rowMul_length, allMul_length, ← HR0.out, List.length_replicate]; omega
          obtain ⟨z, hz⟩ : ∃ z, (rowMul x ys k j (allMul xs ys k r0))[k + j]? = some z := ⟨_, List.getElem?_eq_getElem hlen⟩
          have HZ := Lib.hid hz
          clear hz hlen
          go_wp2_with fail
          have hk0 : (0 : Int) ≤ (k : Int) + (j : Int) := by omega
          have hk1 : (k : Int) + (j : Int) < (n : Int) + (m : Int) := by omega
          have hk2 : (0 : Int) ≤ (k : Int) := by omega
          have hk3 : (0 : Int) ≤ (j : Int) := by omega
          have hk4 : (k : Int) < (n : Int) := by omega
          have hk5 : (j : Int) < (m : Int) := by omega
          have hkw : IntKind.i64.wrap ((k : Int) + (j : Int)) = (k : Int) + (j : Int) := IntWalk.i64_in _ (by omega)
          have hkn : ((k : Int) + (j : Int)).toNat = k + j := by omega
          have l0 := Later.cell (HR.out.at_ HZ.out).1
          have l1 := Later.cell (HR.out.at_ HZ.out).2
          have l2 := Later.cell (cell_keep Hx0.out HB.out)
          have l3 := Later.cell (cell_keep Hx1.out HB.out)
          have l4 := Later.cell (cell_keep Hy0.out HB.out)
          have l5 := Later.cell (cell_keep Hy1.out HB.out)
          refine wp_later_tail 21 (by kernel_rfl) (by kernel_rfl) ?_
          simp only [List.take_succ_cons, List.take_zero, List.drop_succ_cons, List.drop_zero]
          repeat (go_big_quiet_step (first
            | (go_at_call 39; with_reducible exact Calls.later (rMul_any x y _))
            | (go_at_call 37; with_reducible exact Calls.later (rAdd_any z (x * y) _))))
          refine wpQuiet_nil ?_
          intro X
          clear l0 l1 l2 l3 l4 l5
          have HRX := Lib.hid (HR.out.keep X.below)
          have HBX := Lib.hid (below_step HB.out X.below)
          clear hkw hkn hk0 hk1
          obtain ⟨c0, c1⟩ := HRX.out.at_ HZ.out
          have f0 := HRX.out.free ((k + j) * 2)
          have f1 := HRX.out.free ((k + j) * 2 + 1)
          go_wp2_with fail
          go_roundw
          case rel => exact ⟨j + 1, by omega, by go_num, by rw [rowMul, addAt, cfE_some HZ.out, cfE_some HY.out]; exact HRX.out.set (k + j) (z + x * y), (HBX.out.setCell (Nat.le_refl _) _).setCell (Nat.le_refl _) _⟩
          case measure => simp [intOf]; omega
        · have hjm : j = m := by omega
          go_wp2_with fail
          go_roundw
          case rel => exact ⟨k + 1, by omega, by go_num, by rw [allMul, cfE_some HX.out, ← HL'.out, ← hjm]; exact HR.out, HB.out⟩
          case measure => simp [intOf]; omega
    · have hkn : k = n := by omega
      subst hkn
      have HSQ := Lib.hid (Row.slc HRO.out (show k + m = _ by rw [allMul_length, ← HR0.out, List.length_replicate]) (Nat.le_refl _) (by omega))
      go_wp2_with fail
      refine (rTrim_any _ _ _ _ _ HSQ.out (by omega)).mono ?_
      rintro e W1 ⟨A', q, c', rfl, hq, hs, hb⟩
      have HS1 := Lib.hid hs
      clear hs
      go_wp2_with fail
      go_ret
      exact ⟨A', q, c', rfl, hq, by unfold mulE; rw [← HL.out, ← HL'.out, HR0.out]; exact HS1.out, below_step HBO.out hb⟩

set_option maxHeartbeats 2000000 in
theorem rPScale_any (A : Option Addr) (n c : Nat) (xs : List E2) (y : E2) (w : World) (h : Sl w A n c xs) (hn : n ≤ 65536) :
    Calls Try.prog 26 #[.slice A n c, .agg #[.int .u64 (vF y.A), .int .u64 (vF y.B)]] w fun e w' => ∃ A' m' c', e = .returned (.slice A' m' c') ∧ m' ≤ n ∧ Sl w' A' m' c' (scaleE xs y) ∧ Below w.heap.size w w' := by
  have hnc := h.cap
  have hct := h.top
  have HL := Lib.hid h.len
  have HS := Lib.hid h
  clear h
  go_enter Try.func26, Try.ntmps26
  go_wp2_with fail
  go_loopw [5, 6] (fun v i wr => ∃ k : Nat, k ≤ n ∧ i = .int .i64 k ∧ OwE wr (w.heap.size + 1) v k ((xs.take k).map fun x => x * y) ∧ Two wr w.heap.size 25 (.int .u64 (vF y.A)) (.int .u64 (vF y.B)) ∧ Below w.heap.size w wr) (fun _ i _ => n - (intOf i).toNat)
  case atStart => exact ⟨0, Nat.zero_le _, rfl, by have := OwE.made (w.alloc (.cells #[.int .u64 (vF y.A), .int .u64 (vF y.B)] 25)) (w.heap.size + 1) (by simp); simpa using this, (Two.new w _ _ _).alloc _, ((Below.refl _ _).alloc (Nat.le_refl _) _).alloc (by simp) _⟩
  case round =>
    obtain ⟨k, hk, rfl, ho, hy, hb⟩ := hrel
    have HO := Lib.hid ho
    have HY := Lib.hid hy
    have HB := Lib.hid hb
    clear ho hy hb
    by_cases hlt : k < n
    · obtain ⟨x, hx⟩ := HS.out.get hlt
      obtain ⟨ad, rfl, h0, h1⟩ := HS.out.at_ hx
      have l0 := LaterB.cell (B := w.heap.size + 1) (cell_keep h0 HB.out) (Nat.lt_succ_of_lt (World.block_lt_of_cell? w _ h0))
      have l1 := LaterB.cell (B := w.heap.size + 1) (cell_keep h1 HB.out) (Nat.lt_succ_of_lt (World.block_lt_of_cell? w _ h1))
      have l2 := LaterB.cell (B := w.heap.size + 1) HY.out.c0 (Nat.lt_succ_self _)
      have l3 := LaterB.cell (B := w.heap.size + 1) HY.out.c1 (Nat.lt_succ_self _)
      have HX := Lib.hid hx
      clear hx h0 h1
      have hk0 : (0 : Int) ≤ (k : Int) := by omega
      have hk1 : (k : Int) < (n : Int) := by omega
      go_wp2_with fail
      refine wp_heldB (w.heap.size + 1) (by kernel_rfl) (lexOK_of (by kernel_rfl) (by kernel_rfl)) (chainOK_of (by kernel_rfl)) (fun W hbW hSW => ?_)
      have HO0 := Lib.hid (HO.out.keep hbW)
      have HY0 := Lib.hid (HY.out.keep hbW)
      have HB0 := Lib.hid (below_step HB.out hbW)
      have HSW := Lib.hid hSW
      clear hbW hSW
      refine wpHeld_seg 6 HSW.out (by kernel_rfl) ?_
      simp only [List.take_succ_cons, List.take_zero, List.drop_succ_cons, List.drop_zero]
      repeat (go_big_quiet_step (fail))
      refine wpQuiet_nil ?_
      clear l0 l1 l2 l3
      refine wpHeld_call 39 Try.func39 (by kernel_rfl) (by kernel_rfl) _ _ #[.agg #[.int .u64 (vF x.A), .int .u64 (vF x.B)], .agg #[.int .u64 (vF y.A), .int .u64 (vF y.B)]] rfl (by kernel_rfl) (by kernel_rfl) ?_
      refine (rMul_any x y _).mono ?_
      rintro e W1 ⟨rfl, hb1⟩
      have HO1 := Lib.hid (HO0.out.keep hb1)
      have HY1 := Lib.hid (HY0.out.keep hb1)
      have HB1 := Lib.hid (below_step HB0.out hb1)
      have hz0 : w.heap.size + 1 ≤ W.heap.size := HY0.out.lt
      have hz1 : w.heap.size + 1 ≤ W1.heap.size := HY1.out.lt
      have HS1 := Lib.hid (LaterB.step HSW.out (hb1.mono hz0))
      clear hb1
      refine ⟨_, rfl, HS1.out, ?_⟩
      simp only [Act.put, List.setIfInBounds_toArray, List.set_cons_zero, List.set_cons_succ]
      have HS2 := Lib.hid (LaterB.step HS1.out ((Below.refl (w.heap.size + 1) W1).alloc hz1 (.cells #[.int .u64 (vF (x * y).A), .int .u64 (vF (x * y).B)] 25)))
      refine wpHeld_run _ _ (by kernel_rfl) (by kernel_rfl) (run_buildE (x * y) rfl rfl _) HS2.out ?_
      simp only [Act.put, List.setIfInBounds_toArray, List.set_cons_zero, List.set_cons_succ]
      have HOa := Lib.hid (HO1.out.keep ((Below.refl _ _).alloc (Nat.le_refl _) (.cells #[.int .u64 (vF (x * y).A), .int .u64 (vF (x * y).B)] 25)))
      have HTa := Lib.hid (Two.new W1 25 (.int .u64 (vF (x * y).A)) (.int .u64 (vF (x * y).B)))
      have HYa := Lib.hid (HY1.out.alloc (.cells #[.int .u64 (vF (x * y).A), .int .u64 (vF (x * y).B)] 25))
      have HBa := Lib.hid (HB1.out.alloc HB1.out.size (.cells #[.int .u64 (vF (x * y).A), .int .u64 (vF (x * y).B)] 25))
      refine wpHeld_op (by kernel_rfl) (by kernel_rfl) ?_
      refine hOp_appendE (.tmp 14) (.tmp 21) rfl (w.heap.size + 1) _ k _ rfl HOa.out W1.heap.size 1 (x * y) rfl HTa.out (by omega) (by simp; omega) ?_
      intro v1 w1 hown1 hg1
      have HO2 := Lib.hid hown1
      have HY2 := Lib.hid (two_grown HYa.out hg1 HOa.out (Nat.lt_succ_self _))
      have HB2 := Lib.hid (below_grown (w0 := w) HBa.out hg1 HOa.out (Nat.le_succ _))
      have HS3 := Lib.hid (LaterB.step HS2.out (Below.grown (Below.refl (w.heap.size + 1) _) hg1 (by simp; omega) (fun q hq => (HOa.out.lt q hq).1)))
      clear hown1 hg1
      refine ⟨HS3.out, ?_⟩
      simp only [Act.put, List.setIfInBounds_toArray, List.set_cons_zero, List.set_cons_succ]
      refine wpHeld_seg 1 HS3.out (by kernel_rfl) ?_
      simp only [List.take_succ_cons, List.take_zero, List.drop_succ_cons, List.drop_zero]
      repeat (go_big_quiet_step (fail))
      refine wpQuiet_nil (wpHeld_nil ?_)
      go_wp2_with fail
      go_roundw
      case rel => exact ⟨k + 1, by omega, by go_num, by rw [List.take_succ_eq_append_getElem (by have := HL.out; omega), List.map_append, (List.getElem?_eq_some_iff.1 HX.out).2]; exact HO2.out, HY2.out, HB2.out⟩
      case measure => simp [intOf]; omega
    · have hkn : k = n := by omega
      subst hkn
      obtain ⟨A1, c1, rfl, hs1⟩ := HO.out.sl
      have HSQ := Lib.hid hs1
      clear hs1
      go_wp2_with fail
      refine (rTrim_any _ _ _ _ _ HSQ.out hn).mono ?_
      rintro e W1 ⟨A', q, c', rfl, hq, hs, hb⟩
      have HS1 := Lib.hid hs
      clear hs
      go_wp2_with fail
      go_ret
      exact ⟨A', q, c', rfl, hq, by have := HS1.out; rw [HL.out, List.take_length] at this; unfold scaleE; simp only [E2.mul_comm y]; exact this, below_step HB.out hb⟩

set_option maxHeartbeats 1000000 in
theorem rFromInt_m1 (w : World) : Calls Try.prog 40 #[.int .i64 (-1)] w fun e w' => e = .returned (.agg #[.int .u64 (vF (-E2.one).A), .int .u64 (vF (-E2.one).B)]) ∧ Below w.heap.size w w' := by
  have h := rFromInt_any (-1) w (by omega) (by omega)
  rw [show E2.ofF (toF (-1)) = -E2.one from E2.ext' (by decide +kernel) (by decide +kernel)] at h
  exact h
theorem rPSub_any (A : Option Addr) (n c : Nat) (xs : List E2) (B : Option Addr) (m d : Nat) (ys : List E2) (w : World) (h : Sl w A n c xs) (h' : Sl w B m d ys) (hn : n ≤ 65536) (hm : m ≤ 65536) :
    Calls Try.prog 22 #[.slice A n c, .slice B m d] w fun e w' => ∃ A' m' c', e = .returned (.slice A' m' c') ∧ m' ≤ max n m ∧ Sl w' A' m' c' (subE xs ys) ∧ Below w.heap.size w w' := by
  have HS := Lib.hid h
  have HS' := Lib.hid h'
  clear h h'
  go_enter Try.func22, Try.ntmps22
  go_wp2_with fail
  refine (rFromInt_m1 _).mono ?_
  rintro e W1 ⟨rfl, hb⟩
  have HB1 := Lib.hid hb
  clear hb
  go_wp2_with fail
  refine (rPScale_any _ _ _ _ _ _ (HS'.out.keep HB1.out) hm).mono ?_
  rintro e W2 ⟨A1, m1, c1, rfl, hm1, hs, hb⟩
  have HS1 := Lib.hid hs
  have HB2 := Lib.hid (below_step HB1.out hb)
  clear hs hb
  go_wp2_with fail
  refine (rPAdd_any _ _ _ _ _ _ _ _ _ (HS.out.keep HB2.out) HS1.out hn (by omega)).mono ?_
  rintro e W3 ⟨A2, m2, c2, rfl, hm2, hs, hb⟩
  have HS2 := Lib.hid hs
  have HB3 := Lib.hid (below_step HB2.out hb)
  clear hs hb
  go_wp2_with fail
  go_ret
  exact ⟨A2, m2, c2, rfl, by omega, by rw [← subE_eq]; exact HS2.out, HB3.out⟩

end Go.Proofs.Ytjimnoikkgheaaa
