/- Contract of the reference's multiplication of polynomials; no conditions but that slices hold field elements. -/
import Derived.Test.YtihneehceclffaaNrg
import Derived.StillTailTactics
namespace Go.Proofs.Ytihneehceclffaa
open Go.RowKit Gold

def termF (a b : Nat → F) (i p : Nat) : F := if i ≤ p then a i * b (p - i) else 0
def partF (a b : Nat → F) (i p : Nat) : F := sumF (fun j => termF a b j p) i
def rowQ (a b : Nat → F) (i j p : Nat) : F := if i ≤ p ∧ p < i + j then partF a b i p + a i * b (p - i) else partF a b i p
theorem rowQ_zero (a b : Nat → F) (i p : Nat) : rowQ a b i 0 p = partF a b i p := if_neg (by omega)
theorem rowQ_end {a b : Nat → F} {m : Nat} (hb : ∀ k, m ≤ k → b k = 0) (i p : Nat) : rowQ a b i m p = partF a b (i + 1) p := by
  show rowQ a b i m p = partF a b i p + termF a b i p
  unfold rowQ termF
  by_cases h1 : i ≤ p
  · by_cases h2 : p < i + m
    · rw [if_pos ⟨h1, h2⟩, if_pos h1]
    · rw [if_neg (fun h => h2 h.2), if_pos h1, hb (p - i) (by omega), F_mul_comm, F_zero_mul, F_add_zero]
  · rw [if_neg (fun h => h1 h.1), if_neg h1, F_add_zero]
theorem partF_end {a b : Nat → F} {n : Nat} (ha : ∀ k, n ≤ k → a k = 0) (p : Nat) : partF a b n p = convF a b p := by
  unfold partF convF
  rcases Nat.le_total n (p + 1) with h | h
  · rw [sumF_tail h (fun i hi _ => by rw [ha i hi, F_zero_mul])]
    exact sumF_congr fun i hi => show termF a b i p = _ by
      unfold termF
      by_cases e : i ≤ p
      · rw [if_pos e]
      · omega
  · rw [sumF_tail h (fun i hi _ => show termF a b i p = 0 from if_neg (by omega))]
    exact sumF_congr fun i hi => if_pos (by omega)
theorem rowQ_step (a b : Nat → F) (L i j : Nat) : (tabF L (rowQ a b i j)).set (i + j) (rowQ a b i j (i + j) + a i * b j) = tabF L (rowQ a b i (j + 1)) := by
  rw [tabF_set]
  refine tabF_congr fun p _ => ?_
  unfold rowQ
  by_cases e : p = i + j
  · subst e
    rw [if_pos rfl, if_neg (by omega), if_pos (by omega), Nat.add_sub_cancel_left]
  · rw [if_neg e]
    by_cases h : i ≤ p ∧ p < i + j
    · rw [if_pos h, if_pos (by omega)]
    · rw [if_neg h, if_neg (by omega)]

set_option maxHeartbeats 4000000 in
theorem rmul_yes (A : Option Addr) (n c : Nat) (xs : List F) (B : Option Addr) (m d : Nat) (ys : List F) (w : World) (h : Sf w A n c xs) (h' : Sf w B m d ys) (hn0 : 0 < n) (hm0 : 0 < m) (hb : n + m - 1 ≤ 65536) :
    Calls Try.prog 21 #[.slice A n c, .slice B m d] w fun e w' => ∃ g, e = .returned (.tuple #[.slice (some ⟨g, 0, none⟩) (n + m - 1) (n + m - 1), .int .i64 0]) ∧ Sf w' (some ⟨g, 0, none⟩) (n + m - 1) (n + m - 1) (mulF' xs ys) ∧ Below w.heap.size w w' := by
  have hnl := Lib.hid h.len
  have hml := Lib.hid h'.len
  have hcn := h.cap
  have htn := h.top
  have hcm := h'.cap
  have htm := h'.top
  have HX := Lib.hid h
  have HY := Lib.hid h'
  have b1 : ((n : Int) == 0) = false := by simp; omega
  have b2 : ((m : Int) == 0) = false := by simp; omega
  obtain ⟨L, hL⟩ : ∃ L, L = n + m - 1 := ⟨_, rfl⟩
  have hLi : (n : Int) + (m : Int) - 1 = (L : Int) := by omega
  have hL1 : 1 ≤ L := by omega
  have hL2 : L ≤ 65536 := by omega
  have hnm : n + m = L + 1 := by omega
  have HNM := Lib.hid hnm
  rw [← hL]
  have hmu : mulF' xs ys = tabF L (convF (cfF xs) (cfF ys)) := by unfold mulF'; rw [← h.len, ← h'.len, ← hL]
  rw [hmu]
  clear h h' hL hb hmu hnm
  have hmk := run_makeF L (by omega)
  go_enter Try.func21, Try.ntmps21
  go_wp2_with fail
  clear hLi b1 b2 hmk
  go_loopw [7] (fun i wr => ∃ k : Nat, k ≤ n ∧ i = .int .i64 k ∧ RowF wr w.heap.size (tabF L (partF (cfF xs) (cfF ys) k)) ∧ Below w.heap.size w wr) (fun i _ => n - (intOf i).toNat)
  case atStart => exact ⟨0, Nat.zero_le _, rfl, rowF_made w _, (Below.refl _ _).alloc (Nat.le_refl _) _⟩
  case round =>
    obtain ⟨k, hk, rfl, hr, hb⟩ := hrel
    have HR := Lib.hid hr
    have HB := Lib.hid hb
    clear hr hb
    by_cases hlt : k < n
    · obtain ⟨x, hx⟩ := HX.out.get hlt
      have HXk := Lib.hid hx
      clear hx
      go_wp2_with fail
      obtain ⟨wo, rfl⟩ : ∃ wo : World, wo = wr := ⟨_, rfl⟩
      go_loopw [8] (fun i wr => ∃ j : Nat, j ≤ m ∧ i = .int .i64 j ∧ RowF wr w.heap.size (tabF L (rowQ (cfF xs) (cfF ys) k j)) ∧ Below w.heap.size w wr) (fun i _ => m - (intOf i).toNat)
      case atStart => exact ⟨0, Nat.zero_le _, rfl, by rw [tabF_congr (g := partF (cfF xs) (cfF ys) k) fun p _ => rowQ_zero _ _ _ _]; exact HR.out, HB.out⟩
      case round =>
        clear HR HB
        obtain ⟨j, hj, rfl, hr, hb⟩ := hrel
        have HR := Lib.hid hr
        have HB := Lib.hid hb
        clear hr hb
        by_cases hjm : j < m
        · obtain ⟨y, hy⟩ := HY.out.get hjm
          have hkj : k + j < L := by have := HNM.out; omega
          obtain ⟨ad, rfl, h1⟩ := (HX.out.keep HB.out).at_ HXk.out
          obtain ⟨bd, rfl, h2⟩ := (HY.out.keep HB.out).at_ hy
          obtain ⟨p, hp⟩ : ∃ p : Nat, p = k + j := ⟨_, rfl⟩
          have h3 := HR.out.at_ (tabF_get (rowQ (cfF xs) (cfF ys) k j) hkj)
          have h4 := HR.out.free (k + j)
          have HXc := Lib.hid (cfF_some HXk.out)
          have HYc := Lib.hid (cfF_some hy)
          clear hy
          rw [← hp] at h3 h4
          generalize hcur : rowQ (cfF xs) (cfF ys) k j p = z at h3
          have HC := Lib.hid hcur
          clear hcur
          have HP := Lib.hid hp
          have HPI := Lib.hid (show (k : Int) + (j : Int) = (p : Int) by omega)
          have k5 : (0 : Int) ≤ (p : Int) := by omega
          have k6 : (p : Int) < (L : Int) := by omega
          clear hp hkj
          have k0 : (0 : Int) ≤ (k : Int) := by omega
          have k1 : (0 : Int) ≤ (j : Int) := by omega
          have k3 : (k : Int) < (n : Int) := by omega
          have k4 : (j : Int) < (m : Int) := by omega
          go_wp2_with fail
          have c1 : ({ wr with drawn := wr.drawn + 1 } : World).cell? _ = _ := h1
          have c2 : ({ wr with drawn := wr.drawn + 1 } : World).cell? _ = _ := h2
          have c3 : ({ wr with drawn := wr.drawn + 1 } : World).cell? _ = _ := h3
          have hkw : IntKind.i64.wrap ((k : Int) + (j : Int)) = (p : Int) := by rw [HPI.out, IntKind.wrap_i64]; omega
          refine wp_region_still_tail 21 (by kernel_rfl) (by kernel_rfl) ?_
          simp only [List.take_succ_cons, List.take_zero, List.drop_succ_cons, List.drop_zero]
          repeat still_step
          still_call (rmulF x y _)
          still_call (raddF z (x * y) _)
          repeat still_step
          refine wpStill_nil ?_
          clear c1 c2 c3 hkw
          have d3 : wr.drew.cell? _ = _ := h3
          have d4 : wr.drew.frozen? _ = _ := h4
          have HR2 := Lib.hid (show RowF wr.drew w.heap.size (tabF L (rowQ (cfF xs) (cfF ys) k j)) from HR.out)
          have HB2 := Lib.hid (show Below w.heap.size w wr.drew from HB.out.drew)
          clear h1 h2 h3 h4 HR HB
          change wpList _ _ _ _ _ wr.drew
          generalize wr.drew = w2 at *
          go_wp2_with fail
          go_roundw
          case rel => exact ⟨j + 1, by omega, by go_num, by
            have h5 := HR2.out.set p (z + x * y)
            have h6 : (tabF L (rowQ (cfF xs) (cfF ys) k j)).set p (z + x * y) = tabF L (rowQ (cfF xs) (cfF ys) k (j + 1)) := by rw [← HC.out, ← HXc.out, ← HYc.out, HP.out]; exact rowQ_step _ _ _ _ _
            rw [h6] at h5
            exact h5, HB2.out.setCell (Nat.le_refl _) _⟩
          case measure => simp [intOf]; omega
        · obtain rfl : j = m := by omega
          go_wp2_with fail
          go_roundw
          case rel => exact ⟨k + 1, by omega, by go_num, by rw [← tabF_congr fun p _ => rowQ_end (fun q hq => cfF_none (by rw [← hml.out]; exact hq)) k p]; exact HR.out, HB.out⟩
          case measure => simp [intOf]; omega
    · obtain rfl : k = n := by omega
      go_wp2_with fail
      go_ret2
      exact ⟨_, rfl, (HR.out.sl (tabF_length _ _).symm (Nat.le_refl _) (by omega)).cast (tabF_congr fun p _ => partF_end (fun q hq => cfF_none (by rw [← hnl.out]; exact hq)) p), HB.out⟩
set_option maxHeartbeats 400000 in
theorem rmul_empty (A : Option Addr) (n c : Nat) (B : Option Addr) (m d : Nat) (w : World) (h0 : n = 0 ∨ m = 0) :
    Calls Try.prog 21 #[.slice A n c, .slice B m d] w fun e w' => e = .returned (.tuple #[.slice none 0 0, .int .i64 0]) ∧ Below w.heap.size w w' := by
  by_cases h1 : n = 0
  · subst h1
    clear h0
    go_enter Try.func21, Try.ntmps21
    go_wp2_with fail
    go_ret2
    exact ⟨rfl, Below.refl _ _⟩
  · obtain rfl : m = 0 := by omega
    have b1 : ((n : Int) == 0) = false := by simp; omega
    clear h0 h1
    go_enter Try.func21, Try.ntmps21
    go_wp2_with fail
    go_ret2
    exact ⟨rfl, Below.refl _ _⟩

end Go.Proofs.Ytihneehceclffaa
