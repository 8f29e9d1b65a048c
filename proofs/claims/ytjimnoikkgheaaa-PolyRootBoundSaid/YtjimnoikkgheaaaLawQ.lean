/- The mathematics of the bound of roots: a product of different linear factors, and how many roots a polynomial has among different elements; no conditions but lengths. -/
import Derived.Test.YtjimnoikkgheaaaLawN
import Derived.Test.YtjimnoikkgheaaaLawA
namespace Go.Proofs.Ytjimnoikkgheaaa
open Go.RowKit Gold

/-- the product of the first k factors X - pts[i] -/
def prodX (pts : List E2) : Nat → List E2
  | 0 => [ndZ 1]
  | k + 1 => mulE (trimE (prodX pts k)) (trimE [-(cfE pts k), ndZ 1])
theorem lin_trim (a : E2) : (trimE [-a, ndZ 1]).length = 2 := by
  refine trimE_lead (n := 1) ?_ fun i hi => ?_
  · show ndZ 1 ≠ E2.zero
    decide
  · unfold cfE
    rw [List.getElem?_eq_none (by simp; omega)]
    rfl
theorem prodX_deg (pts : List E2) : ∀ k, ((trimE (prodX pts k)).length : Int) - 1 = (k : Int)
  | 0 => by
    have h : (trimE [ndZ 1]).length = 1 := by decide
    show ((trimE [ndZ 1]).length : Int) - 1 = _
    rw [h]
    rfl
  | k + 1 => by
    have ih := prodX_deg pts k
    have h := ring_deg (xs := prodX pts k) (ys := [-(cfE pts k), ndZ 1]) (n := k) (m := 1) (by omega) (lin_trim _)
    show ((trimE (mulE (trimE (prodX pts k)) (trimE [-(cfE pts k), ndZ 1]))).length : Int) - 1 = _
    rw [h]
    rfl
theorem prodX_length (pts : List E2) : ∀ k, (prodX pts k).length ≤ 3 * k + 1
  | 0 => Nat.le_refl _
  | k + 1 => by
    have ih := prodX_length pts k
    have h1 := mulE_length (trimE (prodX pts k)) (trimE [-(cfE pts k), ndZ 1])
    have h2 := trimE_length (prodX pts k)
    have h3 := lin_trim (cfE pts k)
    show (mulE (trimE (prodX pts k)) (trimE [-(cfE pts k), ndZ 1])).length ≤ _
    omega
theorem evE_prodX (pts : List E2) (z : E2) : ∀ k, evE (prodX pts (k + 1)) z = evE (prodX pts k) z * (z - cfE pts k) := fun k => by
  show evE (mulE (trimE (prodX pts k)) (trimE [-(cfE pts k), ndZ 1])) z = _
  rw [evE_mulE, evE_trimE, evE_trimE, div_lin]
theorem prodX_zero (pts : List E2) (z : E2) : ∀ k, evE (prodX pts k) z = E2.zero ↔ ∃ j, j < k ∧ z = cfE pts j
  | 0 => by
    refine ⟨fun h => ?_, fun ⟨j, hj, _⟩ => by omega⟩
    have h1 : evE [ndZ 1] z = E2.one := evE_one z
    rw [show prodX pts 0 = [ndZ 1] from rfl, h1] at h
    exact absurd h (by decide)
  | k + 1 => by
    rw [evE_prodX]
    constructor
    · intro h
      rcases E2.zero_divisor h with h | h
      · obtain ⟨j, hj, e⟩ := (prodX_zero pts z k).1 h
        exact ⟨j, by omega, e⟩
      · exact ⟨k, by omega, E2.sub_eq_zero h⟩
    · rintro ⟨j, hj, e⟩
      by_cases hjk : j = k
      · subst hjk
        rw [← e, E2.sub_self, E2.mul_zero]
      · rw [(prodX_zero pts z k).2 ⟨j, by omega, e⟩, E2.zero_mul]
theorem nodup_cf {pts : List E2} (hd : pts.Nodup) {i j : Nat} (hi : i < pts.length) (hj : j < pts.length) (e : cfE pts i = cfE pts j) : i = j := by
  rw [cfE_some (List.getElem?_eq_getElem hi), cfE_some (List.getElem?_eq_getElem hj)] at e
  unfold List.Nodup at hd
  rw [List.pairwise_iff_getElem] at hd
  rcases Nat.lt_trichotomy i j with h | h | h
  · exact absurd e (hd i j hi hj h)
  · exact h
  · exact absurd e.symm (hd j i hj hi h)
theorem filter_lt (k : Nat) : ∀ m, k ≤ m → (List.range m).filter (fun i => decide (i < k)) = List.range k
  | 0, h => by obtain rfl : k = 0 := by omega
               rfl
  | m + 1, h => by
    rw [List.range_succ, List.filter_append]
    by_cases hk : k ≤ m
    · rw [filter_lt k m hk]
      simp [show ¬ m < k by omega]
    · obtain rfl : k = m + 1 := by omega
      rw [List.filter_eq_self.2 (fun i hi => by rw [List.mem_range] at hi; exact decide_eq_true (by omega)), List.filter_eq_self.2 (fun i hi => by simp at hi; subst hi; exact decide_eq_true (by omega)), List.range_succ]
theorem roots_prod {pts : List E2} (hd : pts.Nodup) {k : Nat} (hk : k ≤ pts.length) : (rootsAt (prodX pts k) pts pts.length).length = k := by
  have h : rootsAt (prodX pts k) pts pts.length = (List.range pts.length).filter (fun i => decide (i < k)) := by
    unfold rootsAt
    refine List.filter_congr fun i hi => ?_
    rw [List.mem_range] at hi
    rw [Bool.eq_iff_iff, decide_eq_true_iff]
    rw [ezero_iff, prodX_zero]
    constructor
    · rintro ⟨j, hj, e⟩
      have := nodup_cf hd hi (by omega) e
      omega
    · exact fun h => ⟨i, h, rfl⟩
  rw [h, filter_lt k _ hk, List.length_range]
theorem roots_bound {pts : List E2} (hd : pts.Nodup) (xs : List E2) (hx : (trimE xs).length ≠ 0) (hl : xs.length ≤ 65536) : (rootsAt xs pts pts.length).length ≤ (trimE xs).length - 1 := by
  refine Classical.byContradiction fun hn => hx ?_
  have ht := trimE_length xs
  have h0 : ∀ z, evE (trimE xs) z = E2.zero := by
    refine roots_all (trimE xs).length (trimE xs) ((rootsAt xs pts pts.length).map (cfE pts)) (Nat.le_refl _) (by rw [List.length_map]; omega) ?_ fun r hr => ?_
    · unfold List.Nodup
      rw [List.pairwise_map]
      refine List.Pairwise.imp_of_mem ?_ (List.Pairwise.filter _ (List.nodup_range (n := pts.length)))
      intro a b ha hb hne e
      unfold rootsAt at ha hb
      rw [List.mem_filter, List.mem_range] at ha hb
      exact hne (nodup_cf hd ha.1 hb.1 e)
    · rw [List.mem_map] at hr
      obtain ⟨i, hi, rfl⟩ := hr
      unfold rootsAt at hi
      rw [List.mem_filter] at hi
      rw [evE_trimE]
      exact (ezero_iff _).1 hi.2
  have hc := cf_zero_of_values (xs := trimE xs) (by omega) h0
  have hle := trimE_length_le (xs := trimE xs) (n := 0) (fun i _ => hc i)
  rw [trimE_trimE] at hle
  omega
theorem subE_short (xs ys : List E2) : (subE xs ys).length ≤ max (trimE xs).length (trimE ys).length := by
  have h := subE_length (trimE xs) (trimE ys)
  have e : subE (trimE xs) (trimE ys) = subE xs ys := trim_ext (subE_trim _ _) (subE_trim _ _) fun i => by rw [cfE_subE, cfE_subE, cfE_trimE, cfE_trimE]
  rw [e] at h
  exact h

end Go.Proofs.Ytjimnoikkgheaaa
