/- The mathematics of the laws of package poly: identities of polynomials; no conditions but lengths. -/
import Derived.Test.YtjimnoikkgheaaaPolK
import Derived.Test.YtjimnoikkgheaaaZmk
set_option linter.unusedSimpArgs false
namespace Go.Proofs.Ytjimnoikkgheaaa
open Go.RowKit Gold

theorem wrap_small {n : Int} (h0 : 0 ≤ n) (h1 : n < 1000) : wrap64 n = n := by unfold wrap64; omega
theorem len_cases (xs : List E2) : xs.length = 0 ∨ ∃ k, xs.length = k + 1 := by
  rcases xs with _ | ⟨x, l⟩
  · exact .inl rfl
  · exact .inr ⟨l.length, rfl⟩
theorem ring_addc (xs ys : List E2) (hx : xs.length ≤ 1000) (hy : ys.length ≤ 1000) : addE ys xs = addE xs ys :=
  poly_eq (addE_trim _ _) (addE_trim _ _) (by have := addE_length ys xs; omega) (by have := addE_length xs ys; omega) fun z => by rw [evE_addE, evE_addE, E2.add_comm]
theorem ring_mulc (xs ys : List E2) (hx : xs.length ≤ 1000) (hy : ys.length ≤ 1000) : mulE (trimE ys) (trimE xs) = mulE (trimE xs) (trimE ys) := by
  have h1 := trimE_length xs
  have h2 := trimE_length ys
  exact poly_eq (mulE_trim _ _) (mulE_trim _ _) (by have := mulE_length (trimE ys) (trimE xs); omega) (by have := mulE_length (trimE xs) (trimE ys); omega) fun z => by rw [evE_mulE, evE_mulE, E2.mul_comm]
theorem ring_adda (xs ys zs : List E2) (hx : xs.length ≤ 1000) (hy : ys.length ≤ 1000) (hz : zs.length ≤ 1000) : addE (addE xs ys) zs = addE xs (addE ys zs) := by
  have h1 := addE_length xs ys
  have h2 := addE_length ys zs
  refine poly_eq (addE_trim _ _) (addE_trim _ _) (by have := addE_length (addE xs ys) zs; omega) (by have := addE_length xs (addE ys zs); omega) fun z => ?_
  rw [evE_addE, evE_addE, evE_addE, evE_addE]
  exact E2.add_assoc _ _ _
theorem ring_mula (xs ys zs : List E2) (hx : xs.length ≤ 1000) (hy : ys.length ≤ 1000) (hz : zs.length ≤ 1000) : mulE (trimE (mulE (trimE xs) (trimE ys))) (trimE zs) = mulE (trimE xs) (trimE (mulE (trimE ys) (trimE zs))) := by
  have h1 := trimE_length xs
  have h2 := trimE_length ys
  have h3 := trimE_length zs
  have h4 := mulE_length (trimE xs) (trimE ys)
  have h5 := mulE_length (trimE ys) (trimE zs)
  have h6 := trimE_length (mulE (trimE xs) (trimE ys))
  have h7 := trimE_length (mulE (trimE ys) (trimE zs))
  refine poly_eq (mulE_trim _ _) (mulE_trim _ _) (by have := mulE_length (trimE (mulE (trimE xs) (trimE ys))) (trimE zs); omega) (by have := mulE_length (trimE xs) (trimE (mulE (trimE ys) (trimE zs))); omega) fun z => ?_
  simp only [evE_mulE, evE_trimE]
  exact E2.mul_assoc _ _ _
theorem ring_dist (xs ys zs : List E2) (hx : xs.length ≤ 1000) (hy : ys.length ≤ 1000) (hz : zs.length ≤ 1000) : mulE (trimE xs) (trimE (addE ys zs)) = addE (mulE (trimE xs) (trimE ys)) (mulE (trimE xs) (trimE zs)) := by
  have h1 := trimE_length xs
  have h2 := trimE_length ys
  have h3 := trimE_length zs
  have h4 := mulE_length (trimE xs) (trimE ys)
  have h5 := mulE_length (trimE xs) (trimE zs)
  have h6 := addE_length ys zs
  have h7 := trimE_length (addE ys zs)
  refine poly_eq (mulE_trim _ _) (addE_trim _ _) (by have := mulE_length (trimE xs) (trimE (addE ys zs)); omega) (by have := addE_length (mulE (trimE xs) (trimE ys)) (mulE (trimE xs) (trimE zs)); omega) fun z => ?_
  simp only [evE_mulE, evE_trimE, evE_addE]
  exact E2.mul_add _ _ _
theorem ring_sub (xs ys : List E2) (hx : xs.length ≤ 1000) (hy : ys.length ≤ 1000) : addE (subE xs ys) ys = trimE xs := by
  have h1 := subE_length xs ys
  have h2 := trimE_length xs
  refine poly_eq (addE_trim _ _) (trimE_trimE _) (by have := addE_length (subE xs ys) ys; omega) (by omega) fun z => ?_
  rw [evE_addE, evE_subE, evE_trimE]
  exact E2.sub_add_cancel _ _
theorem ring_deg {xs ys : List E2} {n m : Nat} (hx : (trimE xs).length = n + 1) (hy : (trimE ys).length = m + 1) : ((trimE (mulE (trimE xs) (trimE ys))).length : Int) - 1 = (n : Int) + (m : Int) := by
  rw [mulE_trim, mulE_degree hx hy (trimE_last (trimE_trimE _) hx) (trimE_last (trimE_trimE _) hy)]
  omega
theorem div_dist (a b c : E2) : (a - b) * c = a * c - b * c :=
  E2.ext' (by simp only [E2.add_A, E2.mul_A, E2.sub_A, E2.add_B, E2.mul_B, E2.sub_B]; grind) (by simp only [E2.add_A, E2.mul_A, E2.sub_A, E2.add_B, E2.mul_B, E2.sub_B]; grind)
theorem div_lin (y z : E2) : evE [-y, ndZ 1] z = z - y := evE_linear y z
theorem div_back (xs : List E2) (y : E2) (h : xs.length ≤ 1000) : addE (mulE (trimE (quoE xs y)) (trimE [-y, ndZ 1])) [evE xs y] = trimE xs := by
  have h1 := quoE_length xs y
  have h2 := trimE_length (quoE xs y)
  have h3 := trimE_length [-y, ndZ 1]
  have h4 := mulE_length (trimE (quoE xs y)) (trimE [-y, ndZ 1])
  have h5 := trimE_length xs
  have h6 : ([-y, ndZ 1] : List E2).length = 2 := rfl
  have h7 : ([evE xs y] : List E2).length = 1 := rfl
  refine poly_eq (addE_trim _ _) (trimE_trimE _) (by have := addE_length (mulE (trimE (quoE xs y)) (trimE [-y, ndZ 1])) [evE xs y]; omega) (by omega) fun z => ?_
  rw [evE_addE, evE_mulE, evE_trimE, evE_trimE, evE_trimE, div_lin, evE_cons, evE_nil, E2.mul_zero, E2.add_zero]
  exact (evE_quoE xs y z).symm
theorem div_rest (xs : List E2) (y : E2) : evE (mulE (trimE xs) (trimE [-y, ndZ 1])) y = E2.zero := by
  rw [evE_mulE, evE_trimE, evE_trimE, div_lin, E2.sub_self, E2.mul_zero]
theorem div_quo (xs : List E2) (y : E2) (h : xs.length ≤ 1000) : quoE (mulE (trimE xs) (trimE [-y, ndZ 1])) y = trimE xs := by
  have h3 := trimE_length [-y, ndZ 1]
  have h4 := mulE_length (trimE xs) (trimE [-y, ndZ 1])
  have h5 := trimE_length xs
  have h6 : ([-y, ndZ 1] : List E2).length = 2 := rfl
  have h1 := quoE_length (mulE (trimE xs) (trimE [-y, ndZ 1])) y
  have h7 := subE_length (quoE (mulE (trimE xs) (trimE [-y, ndZ 1])) y) (trimE xs)
  have hz : ∀ z, (evE (quoE (mulE (trimE xs) (trimE [-y, ndZ 1])) y) z - evE (trimE xs) z) * (z - y) = E2.zero := fun z => by
    have e1 := evE_quoE (mulE (trimE xs) (trimE [-y, ndZ 1])) y z
    rw [div_rest, E2.add_zero, evE_mulE, evE_trimE [-y, ndZ 1], div_lin] at e1
    rw [div_dist, ← e1, E2.sub_self]
  rcases len_cases (subE (quoE (mulE (trimE xs) (trimE [-y, ndZ 1])) y) (trimE xs)) with h | ⟨n, h⟩
  · have hn := List.eq_nil_of_length_eq_zero h
    exact subE_zero_eq (trimE_trimE _) (trimE_trimE _) fun i => by rw [hn]; rfl
  · have hd := mulE_degree (xs := subE (quoE (mulE (trimE xs) (trimE [-y, ndZ 1])) y) (trimE xs)) (ys := [-y, ndZ 1]) (n := n) (m := 1) h rfl (trimE_last (subE_trim _ _) h) (show ndZ 1 ≠ E2.zero by decide +kernel)
    have he : mulE (subE (quoE (mulE (trimE xs) (trimE [-y, ndZ 1])) y) (trimE xs)) [-y, ndZ 1] = [] :=
      poly_eq (mulE_trim _ _) rfl (by rw [hd]; omega) (by simp) fun z => by rw [evE_mulE, evE_subE, div_lin, hz, evE_nil]
    rw [he] at hd
    simp at hd
theorem degree_is (A : Option Addr) (n c : Nat) (xs : List E2) (d : Int) (w : World) (h : Sl w A n c xs) (hd : ((trimE xs).length : Int) - 1 = d) :
    Calls Try.prog 17 #[.slice A n c] w fun e w' => e = .returned (.int .i64 d) ∧ Below w.heap.size w w' := by
  rw [← hd]
  exact degree_any A n c xs w h

end Go.Proofs.Ytjimnoikkgheaaa
