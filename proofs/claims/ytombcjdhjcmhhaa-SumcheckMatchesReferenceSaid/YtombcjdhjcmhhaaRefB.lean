/- Contracts of the reference of package poly: sums, multiples, differences, products; no conditions but lengths. -/
import Derived.Test.YtombcjdhjcmhhaaRefA
namespace Go.Proofs.Ytombcjdhjcmhhaa
set_option maxRecDepth 8000
open Go.RowKit Gold


set_option maxHeartbeats 2000000 in
theorem rPAdd_any (A : Option Addr) (n c : Nat) (xs : List E2) (B : Option Addr) (m d : Nat) (ys : List E2) (w : World) (h : Sl w A n c xs) (h' : Sl w B m d ys) (hn : n ≤ 65536) (hm : m ≤ 65536) :
    Calls Try.prog 73 #[.slice A n c, .slice B m d] w fun e w' => ∃ A' m' c', e = .returned (.slice A' m' c') ∧ m' ≤ max n m ∧ Sl w' A' m' c' (addE xs ys) ∧ Below w.heap.size w w' := by
  have hnc := h.cap
  have hct := h.top
  have hmd := h'.cap
  have hdt := h'.top
  have HL := Lib.hid h.len
  have HL' := Lib.hid h'.len
  have HS := Lib.hid h
  have HS' := Lib.hid h'
  clear h h'
  by_cases hlt : n < m
  · have hmk := run_makeE m (by omega)
    generalize hr0 : List.replicate m E2.zero = r0 at hmk
    have HR0 := Lib.hid hr0
    clear hr0
    go_enter Try.func73, Try.ntmps73
    go_wp2_with fail
    clear hmk
    go_loopw [6] (fun s wr => ∃ k : Nat, k ≤ m ∧ s = .int .i64 k ∧ Row wr w.heap.size (tabE k (fun i => cfE xs i + cfE ys i) ++ List.replicate (m - k) E2.zero) ∧ Below w.heap.size w wr) (fun s _ => m - (intOf s).toNat)
    case atStart => exact ⟨0, Nat.zero_le _, rfl, by rw [tab_start, HR0.out]; exact heap_new _ _, (Below.refl _ _).alloc (Nat.le_refl _) _⟩
    case round =>
      obtain ⟨k, hk, rfl, hr, hb⟩ := hrel
      have HR := Lib.hid hr
      have HB := Lib.hid hb
      clear hr hb
      by_cases hkn : k < n
      · by_cases hkm' : k < m
        · have hkm : k < m := by omega
          have HZ := Lib.hid (tab_at (n := m) (fun i => cfE xs i + cfE ys i) hkm)
          obtain ⟨x, hx⟩ := HS.out.get (by assumption)
          obtain ⟨ad, rfl, h0, h1⟩ := HS.out.at_ hx
          have Hx0 := Lib.hid h0
          have Hx1 := Lib.hid h1
          have HX := Lib.hid hx
          clear hx h0 h1
          obtain ⟨y, hx⟩ := HS'.out.get (by assumption)
          obtain ⟨ad2, rfl, h0, h1⟩ := HS'.out.at_ hx
          have Hy0 := Lib.hid h0
          have Hy1 := Lib.hid h1
          have HY := Lib.hid hx
          clear hx h0 h1
          have hk0 : (0 : Int) ≤ (k : Int) := by omega
          have hk1 : (k : Int) < (n : Int) := by omega
          have hk2 : (k : Int) < (m : Int) := by omega
          have hk3 : (k : Int) < (m : Int) := by omega
          go_wp2_with fail
          have l0 := Later.cell (HR.out.at_ HZ.out).1
          have l1 := Later.cell (HR.out.at_ HZ.out).2
          have l2 := Later.cell (cell_keep Hx0.out HB.out)
          have l3 := Later.cell (cell_keep Hx1.out HB.out)
          refine wp_later_tail 12 (by kernel_rfl) (by kernel_rfl) ?_
          simp only [List.take_succ_cons, List.take_zero, List.drop_succ_cons, List.drop_zero]
          repeat (go_big_quiet_step (first
            | (go_at_call 32; with_reducible exact Calls.later (rAdd_any (E2.zero) (x) _))))
          refine wpQuiet_nil ?_
          intro X
          clear l0 l1 l2 l3
          have HRX := Lib.hid (HR.out.keep X.below)
          have HBX := Lib.hid (below_step HB.out X.below)
          obtain ⟨c0, c1⟩ := HRX.out.at_ HZ.out
          have f0 := HRX.out.free ((k) * 2)
          have f1 := HRX.out.free ((k) * 2 + 1)
          go_wp2_with fail
          refine wp_named (fun W5 => Row W5 w.heap.size ((tabE k (fun i => cfE xs i + cfE ys i) ++ List.replicate (m - k) E2.zero).set k (E2.zero + x)) ∧ Below w.heap.size w W5)
            ⟨HRX.out.set k (E2.zero + x), (HBX.out.setCell (Nat.le_refl _) _).setCell (Nat.le_refl _) _⟩ ?_
          rintro W5 ⟨hr5, hb5⟩
          replace HR := Lib.hid hr5
          replace HB := Lib.hid hb5
          have HZ5 := Lib.hid (set_at (E2.zero + x) HZ.out)
          clear hr5 hb5 c0 c1 f0 f1 HRX HBX
          have l0 := Later.cell (HR.out.at_ HZ5.out).1
          have l1 := Later.cell (HR.out.at_ HZ5.out).2
          have l2 := Later.cell (cell_keep Hy0.out HB.out)
          have l3 := Later.cell (cell_keep Hy1.out HB.out)
          refine wp_later_tail 12 (by kernel_rfl) (by kernel_rfl) ?_
          simp only [List.take_succ_cons, List.take_zero, List.drop_succ_cons, List.drop_zero]
          repeat (go_big_quiet_step (first
            | (go_at_call 32; with_reducible exact Calls.later (rAdd_any (E2.zero + x) (y) _))))
          refine wpQuiet_nil ?_
          intro X
          clear l0 l1 l2 l3
          have HRX := Lib.hid (HR.out.keep X.below)
          have HBX := Lib.hid (below_step HB.out X.below)
          obtain ⟨c0, c1⟩ := HRX.out.at_ HZ5.out
          have f0 := HRX.out.free ((k) * 2)
          have f1 := HRX.out.free ((k) * 2 + 1)
          go_wp2_with fail
          have heq : E2.zero + x + y = cfE xs k + cfE ys k := by rw [cfE_some HX.out, cfE_some HY.out, E2.zero_add]
          go_roundw
          case rel => exact ⟨k + 1, by omega, by go_num, by rw [← tab_step (n := m) (fun i => cfE xs i + cfE ys i) hkm, ← heq]; have := HRX.out.set k (E2.zero + x + y); rw [List.set_set] at this; exact this, (HBX.out.setCell (Nat.le_refl _) _).setCell (Nat.le_refl _) _⟩
          case measure => simp [intOf]; omega
        · exact absurd hkn (by omega)
      · by_cases hkm' : k < m
        · have hkm : k < m := by omega
          have HZ := Lib.hid (tab_at (n := m) (fun i => cfE xs i + cfE ys i) hkm)
          obtain ⟨y, hx⟩ := HS'.out.get (by assumption)
          obtain ⟨ad2, rfl, h0, h1⟩ := HS'.out.at_ hx
          have Hy0 := Lib.hid h0
          have Hy1 := Lib.hid h1
          have HY := Lib.hid hx
          clear hx h0 h1
          have hk0 : (0 : Int) ≤ (k : Int) := by omega
          have hk2 : (k : Int) < (m : Int) := by omega
          have hk3 : (k : Int) < (m : Int) := by omega
          go_wp2_with fail
          have l0 := Later.cell (HR.out.at_ HZ.out).1
          have l1 := Later.cell (HR.out.at_ HZ.out).2
          have l2 := Later.cell (cell_keep Hy0.out HB.out)
          have l3 := Later.cell (cell_keep Hy1.out HB.out)
          refine wp_later_tail 12 (by kernel_rfl) (by kernel_rfl) ?_
          simp only [List.take_succ_cons, List.take_zero, List.drop_succ_cons, List.drop_zero]
          repeat (go_big_quiet_step (first
            | (go_at_call 32; with_reducible exact Calls.later (rAdd_any (E2.zero) (y) _))))
          refine wpQuiet_nil ?_
          intro X
          clear l0 l1 l2 l3
          have HRX := Lib.hid (HR.out.keep X.below)
          have HBX := Lib.hid (below_step HB.out X.below)
          obtain ⟨c0, c1⟩ := HRX.out.at_ HZ.out
          have f0 := HRX.out.free ((k) * 2)
          have f1 := HRX.out.free ((k) * 2 + 1)
          go_wp2_with fail
          have heq : E2.zero + y = cfE xs k + cfE ys k := by rw [cfE_some HY.out, cfE_ge (by have := HL.out; omega)]
          go_roundw
          case rel => exact ⟨k + 1, by omega, by go_num, by rw [← tab_step (n := m) (fun i => cfE xs i + cfE ys i) hkm, ← heq]; exact HRX.out.set k (E2.zero + y), (HBX.out.setCell (Nat.le_refl _) _).setCell (Nat.le_refl _) _⟩
          case measure => simp [intOf]; omega
        · have hkM : k = m := by omega
          subst hkM
          have HSQ := Lib.hid (Row.slc HR.out (tab_len (fun i => cfE xs i + cfE ys i) (Nat.le_refl _)).symm (Nat.le_refl _) (by omega))
          go_wp2_with fail
          refine (rTrim_any _ _ _ _ _ HSQ.out (by omega)).mono ?_
          rintro e W1 ⟨A', m', c', rfl, hm', hs, hb⟩
          have HS1 := Lib.hid hs
          clear hs
          go_wp2_with fail
          go_ret
          refine ⟨A', m', c', rfl, by omega, ?_, below_step HB.out hb⟩
          have h9 := HS1.out
          rw [tab_end] at h9
          unfold addE
          rw [← HL.out, ← HL'.out, show max n k = k by omega]
          exact h9
  · have hmk := run_makeE n (by omega)
    generalize hr0 : List.replicate n E2.zero = r0 at hmk
    have HR0 := Lib.hid hr0
    clear hr0
    go_enter Try.func73, Try.ntmps73
    go_wp2_with fail
    clear hmk
    go_loopw [6] (fun s wr => ∃ k : Nat, k ≤ n ∧ s = .int .i64 k ∧ Row wr w.heap.size (tabE k (fun i => cfE xs i + cfE ys i) ++ List.replicate (n - k) E2.zero) ∧ Below w.heap.size w wr) (fun s _ => n - (intOf s).toNat)
    case atStart => exact ⟨0, Nat.zero_le _, rfl, by rw [tab_start, HR0.out]; exact heap_new _ _, (Below.refl _ _).alloc (Nat.le_refl _) _⟩
    case round =>
      obtain ⟨k, hk, rfl, hr, hb⟩ := hrel
      have HR := Lib.hid hr
      have HB := Lib.hid hb
      clear hr hb
      by_cases hkn : k < n
      · by_cases hkm' : k < m
        · have hkm : k < n := by omega
          have HZ := Lib.hid (tab_at (n := n) (fun i => cfE xs i + cfE ys i) hkm)
          obtain ⟨x, hx⟩ := HS.out.get (by assumption)
          obtain ⟨ad, rfl, h0, h1⟩ := HS.out.at_ hx
          have Hx0 := Lib.hid h0
          have Hx1 := Lib.hid h1
          have HX := Lib.hid hx
          clear hx h0 h1
          obtain ⟨y, hx⟩ := HS'.out.get (by assumption)
          obtain ⟨ad2, rfl, h0, h1⟩ := HS'.out.at_ hx
          have Hy0 := Lib.hid h0
          have Hy1 := Lib.hid h1
          have HY := Lib.hid hx
          clear hx h0 h1
          have hk0 : (0 : Int) ≤ (k : Int) := by omega
          have hk1 : (k : Int) < (n : Int) := by omega
          have hk2 : (k : Int) < (m : Int) := by omega
          have hk3 : (k : Int) < (n : Int) := by omega
          go_wp2_with fail
          have l0 := Later.cell (HR.out.at_ HZ.out).1
          have l1 := Later.cell (HR.out.at_ HZ.out).2
          have l2 := Later.cell (cell_keep Hx0.out HB.out)
          have l3 := Later.cell (cell_keep Hx1.out HB.out)
          refine wp_later_tail 12 (by kernel_rfl) (by kernel_rfl) ?_
          simp only [List.take_succ_cons, List.take_zero, List.drop_succ_cons, List.drop_zero]
          repeat (go_big_quiet_step (first
            | (go_at_call 32; with_reducible exact Calls.later (rAdd_any (E2.zero) (x) _))))
          refine wpQuiet_nil ?_
          intro X
          clear l0 l1 l2 l3
          have HRX := Lib.hid (HR.out.keep X.below)
          have HBX := Lib.hid (below_step HB.out X.below)
          obtain ⟨c0, c1⟩ := HRX.out.at_ HZ.out
          have f0 := HRX.out.free ((k) * 2)
          have f1 := HRX.out.free ((k) * 2 + 1)
          go_wp2_with fail
          refine wp_named (fun W5 => Row W5 w.heap.size ((tabE k (fun i => cfE xs i + cfE ys i) ++ List.replicate (n - k) E2.zero).set k (E2.zero + x)) ∧ Below w.heap.size w W5)
            ⟨HRX.out.set k (E2.zero + x), (HBX.out.setCell (Nat.le_refl _) _).setCell (Nat.le_refl _) _⟩ ?_
          rintro W5 ⟨hr5, hb5⟩
          replace HR := Lib.hid hr5
          replace HB := Lib.hid hb5
          have HZ5 := Lib.hid (set_at (E2.zero + x) HZ.out)
          clear hr5 hb5 c0 c1 f0 f1 HRX HBX
          have l0 := Later.cell (HR.out.at_ HZ5.out).1
          have l1 := Later.cell (HR.out.at_ HZ5.out).2
          have l2 := Later.cell (cell_keep Hy0.out HB.out)
          have l3 := Later.cell (cell_keep Hy1.out HB.out)
          refine wp_later_tail 12 (by kernel_rfl) (by kernel_rfl) ?_
          simp only [List.take_succ_cons, List.take_zero, List.drop_succ_cons, List.drop_zero]
          repeat (go_big_quiet_step (first
            | (go_at_call 32; with_reducible exact Calls.later (rAdd_any (E2.zero + x) (y) _))))
          refine wpQuiet_nil ?_
          intro X
          clear l0 l1 l2 l3
          have HRX := Lib.hid (HR.out.keep X.below)
          have HBX := Lib.hid (below_step HB.out X.below)
          obtain ⟨c0, c1⟩ := HRX.out.at_ HZ5.out
          have f0 := HRX.out.free ((k) * 2)
          have f1 := HRX.out.free ((k) * 2 + 1)
          go_wp2_with fail
          have heq : E2.zero + x + y = cfE xs k + cfE ys k := by rw [cfE_some HX.out, cfE_some HY.out, E2.zero_add]
          go_roundw
          case rel => exact ⟨k + 1, by omega, by go_num, by rw [← tab_step (n := n) (fun i => cfE xs i + cfE ys i) hkm, ← heq]; have := HRX.out.set k (E2.zero + x + y); rw [List.set_set] at this; exact this, (HBX.out.setCell (Nat.le_refl _) _).setCell (Nat.le_refl _) _⟩
          case measure => simp [intOf]; omega
        · have hkm : k < n := by omega
          have HZ := Lib.hid (tab_at (n := n) (fun i => cfE xs i + cfE ys i) hkm)
          obtain ⟨x, hx⟩ := HS.out.get (by assumption)
          obtain ⟨ad, rfl, h0, h1⟩ := HS.out.at_ hx
          have Hx0 := Lib.hid h0
          have Hx1 := Lib.hid h1
          have HX := Lib.hid hx
          clear hx h0 h1
          have hk0 : (0 : Int) ≤ (k : Int) := by omega
          have hk1 : (k : Int) < (n : Int) := by omega
          have hk3 : (k : Int) < (n : Int) := by omega
          go_wp2_with fail
          have l0 := Later.cell (HR.out.at_ HZ.out).1
          have l1 := Later.cell (HR.out.at_ HZ.out).2
          have l2 := Later.cell (cell_keep Hx0.out HB.out)
          have l3 := Later.cell (cell_keep Hx1.out HB.out)
          refine wp_later_tail 12 (by kernel_rfl) (by kernel_rfl) ?_
          simp only [List.take_succ_cons, List.take_zero, List.drop_succ_cons, List.drop_zero]
          repeat (go_big_quiet_step (first
            | (go_at_call 32; with_reducible exact Calls.later (rAdd_any (E2.zero) (x) _))))
          refine wpQuiet_nil ?_
          intro X
          clear l0 l1 l2 l3
          have HRX := Lib.hid (HR.out.keep X.below)
          have HBX := Lib.hid (below_step HB.out X.below)
          obtain ⟨c0, c1⟩ := HRX.out.at_ HZ.out
          have f0 := HRX.out.free ((k) * 2)
          have f1 := HRX.out.free ((k) * 2 + 1)
          go_wp2_with fail
          have heq : E2.zero + x = cfE xs k + cfE ys k := by rw [cfE_some HX.out, cfE_ge (by have := HL'.out; omega), E2.zero_add, E2.add_zero]
          go_roundw
          case rel => exact ⟨k + 1, by omega, by go_num, by rw [← tab_step (n := n) (fun i => cfE xs i + cfE ys i) hkm, ← heq]; exact HRX.out.set k (E2.zero + x), (HBX.out.setCell (Nat.le_refl _) _).setCell (Nat.le_refl _) _⟩
          case measure => simp [intOf]; omega
      · by_cases hkm' : k < m
        · exact absurd hkm' (by omega)
        · have hkM : k = n := by omega
          subst hkM
          have HSQ := Lib.hid (Row.slc HR.out (tab_len (fun i => cfE xs i + cfE ys i) (Nat.le_refl _)).symm (Nat.le_refl _) (by omega))
          go_wp2_with fail
          refine (rTrim_any _ _ _ _ _ HSQ.out (by omega)).mono ?_
          rintro e W1 ⟨A', m', c', rfl, hm', hs, hb⟩
          have HS1 := Lib.hid hs
          clear hs
          go_wp2_with fail
          go_ret
          refine ⟨A', m', c', rfl, by omega, ?_, below_step HB.out hb⟩
          have h9 := HS1.out
          rw [tab_end] at h9
          unfold addE
          rw [← HL.out, ← HL'.out, show max k m = k by omega]
          exact h9

set_option maxHeartbeats 4000000 in
theorem rPMul_any (A : Option Addr) (n c : Nat) (xs : List E2) (B : Option Addr) (m d : Nat) (ys : List E2) (w : World) (h : Sl w A n c xs) (h' : Sl w B m d ys) (hn : n ≤ 32768) (hm : m ≤ 32768) :
    Calls Try.prog 72 #[.slice A n c, .slice B m d] w fun e w' => ∃ A' m' c', e = .returned (.slice A' m' c') ∧ m' ≤ n + m ∧ Sl w' A' m' c' (mulE xs ys) ∧ Below w.heap.size w w' := by
  have hnc := h.cap
  have hct := h.top
  have hmd := h'.cap
  have hdt := h'.top
  have HL := Lib.hid h.len
  have HL' := Lib.hid h'.len
  have HS := Lib.hid h
  have HS' := Lib.hid h'
  clear h h'
  have hmk := run_makeE (n + m) (by omega)
  simp only [Int.natCast_add] at hmk
  generalize hr0 : List.replicate (n + m) E2.zero = r0 at hmk
  have HR0 := Lib.hid hr0
  clear hr0
  go_enter Try.func72, Try.ntmps72
  go_wp2_with fail
  clear hmk
  go_loopw [6] (fun s wr => ∃ k : Nat, k ≤ n ∧ s = .int .i64 k ∧ Row wr w.heap.size (allMul xs ys k r0) ∧ Below w.heap.size w wr) (fun s _ => n - (intOf s).toNat)
  case atStart => exact ⟨0, Nat.zero_le _, rfl, heap_new _ _, (Below.refl _ _).alloc (Nat.le_refl _) _⟩
  case round =>
    obtain ⟨k, hk, rfl, hr, hb⟩ := hrel
    have HRO := Lib.hid hr
    have HBO := Lib.hid hb
    clear hr hb
    by_cases hlt : k < n
    · obtain ⟨x, hx⟩ := HS.out.get hlt
      obtain ⟨ad, rfl, h0, h1⟩ := HS.out.at_ hx
      have Hx0 := Lib.hid h0
      have Hx1 := Lib.hid h1
      have HX := Lib.hid hx
      clear hx h0 h1
      go_wp2_with fail
      go_loopw [7] (fun s w2 => ∃ j : Nat, j ≤ m ∧ s = .int .i64 j ∧ Row w2 w.heap.size (rowMul x ys k j (allMul xs ys k r0)) ∧ Below w.heap.size w w2) (fun s _ => m - (intOf s).toNat)
      case atStart => exact ⟨0, Nat.zero_le _, rfl, HRO.out, HBO.out⟩
      case round =>
        clear HRO HBO
        obtain ⟨j, hj, rfl, hr2, hb2⟩ := hrel
        have HR := Lib.hid hr2
        have HB := Lib.hid hb2
        clear hr2 hb2
        by_cases hltj : j < m
        · obtain ⟨y, hy⟩ := HS'.out.get hltj
          obtain ⟨ad2, rfl, h2, h3⟩ := HS'.out.at_ hy
          have Hy0 := Lib.hid h2
          have Hy1 := Lib.hid h3
          have HY := Lib.hid hy
          clear hy h2 h3
          have hlen : k + j < (rowMul x ys k j (allMul xs ys k r0)).length := by rw [rowMul_length, allMul_length, ← HR0.out, List.length_replicate]; omega
          obtain ⟨z, hz⟩ : ∃ z, (rowMul x ys k j (allMul xs ys k r0))[k + j]? = some z := ⟨_, List.getElem?_eq_getElem hlen⟩
          have HZ := Lib.hid hz
          clear hz hlen
          go_wp2_with fail
          have hk0 : (0 : Int) ≤ (k : Int) + (j : Int) := by omega
          have hk1 : (k : Int) + (j : Int) < (n : Int) + (m : Int) := by omega
          have hk2 : (0 : Int) ≤ (k : Int) := by omega
          have hk3 : (0 : Int) ≤ (j : Int) := by omega
          have hk4 : (k : Int) < (n : Int) := by omega
          have hk5 : (j : Int) < (m : Int) := by omega
          have hkw : IntKind.i64.wrap ((k : Int) + (j : Int)) = (k : Int) + (j : Int) := IntWalk.i64_in _ (by omega)
          have hkn : ((k : Int) + (j : Int)).toNat = k + j := by omega
          have l0 := Later.cell (HR.out.at_ HZ.out).1
          have l1 := Later.cell (HR.out.at_ HZ.out).2
          have l2 := Later.cell (cell_keep Hx0.out HB.out)
          have l3 := Later.cell (cell_keep Hx1.out HB.out)
          have l4 := Later.cell (cell_keep Hy0.out HB.out)
          have l5 := Later.cell (cell_keep Hy1.out HB.out)
          refine wp_later_tail 21 (by kernel_rfl) (by kernel_rfl) ?_
          simp only [List.take_succ_cons, List.take_zero, List.drop_succ_cons, List.drop_zero]
          repeat (go_big_quiet_step (first
            | (go_at_call 36; with_reducible exact Calls.later (rMul_any x y _))
            | (go_at_call 32; with_reducible exact Calls.later (rAdd_any z (x * y) _))))
          refine wpQuiet_nil ?_
          intro X
          clear l0 l1 l2 l3 l4 l5
          have HRX := Lib.hid (HR.out.keep X.below)
          have HBX := Lib.hid (below_step HB.out X.below)
          clear hkw hkn hk0 hk1
          obtain ⟨c0, c1⟩ := HRX.out.at_ HZ.out
          have f0 := HRX.out.free ((k + j) * 2)
          have f1 := HRX.out.free ((k + j) * 2 + 1)
          go_wp2_with fail
          go_roundw
          case rel => exact ⟨j + 1, by omega, by go_num, by rw [rowMul, addAt, cfE_some HZ.out, cfE_some HY.out]; exact HRX.out.set (k + j) (z + x * y), (HBX.out.setCell (Nat.le_refl _) _).setCell (Nat.le_refl _) _⟩
          case measure => simp [intOf]; omega
        · have hjm : j = m := by omega
          go_wp2_with fail
          go_roundw
          case rel => exact ⟨k + 1, by omega, by go_num, by rw [allMul, cfE_some HX.out, ← HL'.out, ← hjm]; exact HR.out, HB.out⟩
          case measure => simp [intOf]; omega
    · have hkn : k = n := by omega
      subst hkn
      have HSQ := Lib.hid (Row.slc HRO.out (show k + m = _ by rw [allMul_length, ← HR0.out, List.length_replicate]) (Nat.le_refl _) (by omega))
      go_wp2_with fail
      refine (rTrim_any _ _ _ _ _ HSQ.out (by omega)).mono ?_
      rintro e W1 ⟨A', q, c', rfl, hq, hs, hb⟩
      have HS1 := Lib.hid hs
      clear hs
      go_wp2_with fail
      go_ret
      exact ⟨A', q, c', rfl, hq, by unfold mulE; rw [← HL.out, ← HL'.out, HR0.out]; exact HS1.out, below_step HBO.out hb⟩



end Go.Proofs.Ytombcjdhjcmhhaa
