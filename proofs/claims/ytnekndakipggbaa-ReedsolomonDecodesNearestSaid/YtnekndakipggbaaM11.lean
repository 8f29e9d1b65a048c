/- Several texts in one: St9. -/
import Derived.Test.YtnekndakipggbaaM10
namespace Gold
set_option linter.unusedVariables false
set_option linter.unusedSimpArgs false
set_option linter.unusedSectionVars false
set_option maxRecDepth 8000
theorem inF_unique {xs f : List F} {K : Nat} (hK : K ≤ 15) (hf : Trm f) (hl : f.length ≤ 2 ^ K) (h : ∀ i, i < 2 ^ K → evL f (ptF K i) = cfF xs i) : inF xs K = f := by
  have h65 := pow2_le (k := K) (by omega)
  have hm := mnF_le (inF xs K) f 0 1
  have hle := inF_le xs K
  have hz := zero_at (p := mnF (inF xs K) f 0 1) (K := K) (by omega) (List.range (2 ^ K)) List.nodup_range (fun i hi => List.mem_range.1 hi) (by rw [List.length_range]; exact h65) (by rw [List.length_range]; omega) (fun i hi => by
    have hi := List.mem_range.1 hi
    rw [evL_mnF, inF_at (by omega) hi, h i hi, F_pow_zero]
    grind)
  refine (inF_trm xs K).eq hf fun i => ?_
  have h1 := hz i
  rw [cfF_mnF, if_pos (Nat.zero_le _), Nat.sub_zero] at h1
  grind
theorem evL_const {f : List F} (h : f.length ≤ 1) (x : F) : evL f x = cfF f 0 := by
  match f, h with
  | [], _ => rfl
  | [a], _ => rw [evL_cons, evL_nil]; show 0 * x + a = a; grind
theorem tbF_one (f : Nat → F) : tbF 1 f = [f 0] := rfl
theorem cw_five : cwF [5] 2 = [5, 5, 5, 5] := by
  have e : ∀ x : F, evL [5] x = 5 := fun x => evL_const (by simp) x
  unfold cwF tbF
  simp only [e]
  rfl
theorem cw_lin : cwF [0, 1] 2 = [1, rootF 2, -1, -rootF 2] := by
  have e : ∀ x : F, evL [0, 1] x = x := fun x => by rw [evL_cons, evL_cons, evL_nil]; grind
  have h2 : rootF 2 ^ 2 = -1 := rootF_half (k := 1) (by omega)
  have h3 : rootF 2 ^ 3 = -rootF 2 := by rw [F_pow_succ, h2]; grind
  unfold cwF tbF ptF
  simp only [e]
  show [rootF 2 ^ 0, rootF 2 ^ 1, rootF 2 ^ 2, rootF 2 ^ 3] = _
  rw [F_pow_zero, F_pow_one, h2, h3]
theorem differ_const {f xs : List F} (h : f.length ≤ 1) : differF 4 2 (cfF xs) f = [0, 1, 2, 3].filter fun i => !decide (cfF f 0 = cfF xs i) := by
  unfold differF
  simp only [evL_const h]
  rfl
theorem dec_one {f : List F} (h : f.length ≤ 1) : (differF 4 2 (cfF [5, 5, 7, 5]) f).length = if cfF f 0 = 5 then 1 else if cfF f 0 = 7 then 3 else 4 := by
  rw [differ_const h]
  generalize cfF f 0 = c
  show ([0, 1, 2, 3].filter fun i => !decide (c = cfF [5, 5, 7, 5] i)).length = _
  simp only [List.filter_cons, List.filter_nil, show cfF [5, 5, 7, 5] 0 = 5 from rfl, show cfF [5, 5, 7, 5] 1 = 5 from rfl, show cfF [5, 5, 7, 5] 2 = 7 from rfl, show cfF [5, 5, 7, 5] 3 = 5 from rfl]
  by_cases h5 : c = 5
  · subst h5; decide
  · by_cases h7 : c = 7
    · subst h7; decide
    · simp [h5, h7]
theorem dec_two {f : List F} (h : f.length ≤ 1) : 2 ≤ (differF 4 2 (cfF [5, 5, 7, 7]) f).length := by
  rw [differ_const h]
  generalize cfF f 0 = c
  show 2 ≤ ([0, 1, 2, 3].filter fun i => !decide (c = cfF [5, 5, 7, 7] i)).length
  simp only [List.filter_cons, List.filter_nil, show cfF [5, 5, 7, 7] 0 = 5 from rfl, show cfF [5, 5, 7, 7] 1 = 5 from rfl, show cfF [5, 5, 7, 7] 2 = 7 from rfl, show cfF [5, 5, 7, 7] 3 = 7 from rfl]
  by_cases h5 : c = 5
  · subst h5; decide
  · by_cases h7 : c = 7
    · subst h7; decide
    · simp [h5, h7]
theorem is_five : (inF [5, 5, 5, 5] 2).length ≤ 1 := by
  rw [inF_unique (f := [5]) (by omega) (fun m hm => by have h0 : m = 0 := (by simpa using hm.symm); subst h0; decide) (by decide) (fun i hi => by
    rw [evL_const (by simp)]
    have : i = 0 ∨ i = 1 ∨ i = 2 ∨ i = 3 := by omega
    rcases this with rfl | rfl | rfl | rfl <;> rfl)]
  exact Nat.le_refl _
theorem is_not : ¬ (inF [5, 5, 5, 6] 2).length ≤ 1 := fun h => by
  have h0 := inF_at (xs := [5, 5, 5, 6]) (K := 2) (i := 0) (by omega) (by decide)
  have h3 := inF_at (xs := [5, 5, 5, 6]) (K := 2) (i := 3) (by omega) (by decide)
  rw [evL_const h] at h0 h3
  rw [h0] at h3
  exact absurd h3 (by decide)
theorem at_neg : evE [E2.zero, ⟨1, 3⟩] (E2.ofF (ptF 2 2)) = -(⟨1, 3⟩ : E2) := by
  have h2 : ptF 2 2 = -1 := rootF_half (k := 1) (by omega)
  rw [evE_cons, evE_cons, evE_nil, h2]
  exact E2.ext' (by simp only [E2.add_A, E2.mul_A, E2.neg_A, E2.zero_A, E2.zero_B, E2.add_B, E2.ofF_A, E2.ofF_B]; grind) (by simp only [E2.add_A, E2.mul_B, E2.neg_B, E2.zero_A, E2.zero_B, E2.add_B, E2.ofF_A, E2.ofF_B]; grind)
end Gold
namespace Go.Proofs.Ytnekndakipggbaa
set_option linter.unusedVariables false
set_option linter.unusedSimpArgs false
set_option linter.unusedSectionVars false
open Go.RowKit Go.Proofs.Ytnekndakipggbaa.K
/-- an element of the extension field in cells -/
def exC (x : Gold.E2) : List Value := [.int .u64 (Gold.vF x.A), .int .u64 (Gold.vF x.B)]
instance : Enc exC 2 := ⟨fun _ => rfl, fun x u hu => by
  simp only [exC, List.mem_cons, List.not_mem_nil, or_false] at hu
  rcases hu with rfl | rfl <;> rfl, by decide⟩
theorem slOf {w : World} {A : Option Addr} {n c : Nat} {xs : List Gold.E2} (h : Sg exC 2 w A n c xs) : J.Sl w A n c xs :=
  ⟨by rw [List.length_map]; exact h.len.symm, h.cap, h.top, h.nil, fun i p hp => by
    rw [List.getElem?_map] at hp
    obtain ⟨q, hq, rfl⟩ := Option.map_eq_some_iff.1 hp
    obtain ⟨g, off, rfl, hr⟩ := h.at_ i q hq
    refine ⟨⟨g, off, none⟩, rfl, ?_, ?_⟩
    · rw [Addr.add_mid]; exact hr 0 _ rfl
    · rw [Addr.add_mid]; exact hr 1 _ rfl⟩
theorem encodeN (A : Option Addr) (n c : Nat) (xs : List Gold.F) (z K L N M : Nat) (hn : n = 2 ^ K) (hz : z = 2 ^ L) (hL1 : 1 ≤ L) (hL4 : L ≤ 4) (hKL : K + L = M) (hM : M ≤ 16) (hN : N = 2 ^ M) (w : World) (hX : Sg feC 1 w A n c xs) :
    Calls Try.prog 13 #[.slice A n c, .int .i64 (z : Int)] w fun e w' => ∃ g, e = .returned (.tuple #[.slice (some ⟨g, 0, none⟩) N N, .int .i64 0]) ∧ Sg feC 1 w' (some ⟨g, 0, none⟩) N N (Gold.cwF xs M) ∧ Below w.heap.size w w' := by
  subst hKL hN
  exact encode_yes A n c xs z K L hn hz hL1 hL4 hM w hX
theorem decode_one (A : Option Addr) (c : Nat) (w : World) (hX : Sg feC 1 w A 4 c [5, 5, 7, 5]) :
    Calls Try.prog 29 #[.slice A 4 c, .int .i64 4] w fun e w' => ∃ g, e = .returned (.tuple #[.slice (some ⟨g, 0, none⟩) 1 1, .int .i64 1, .int .i64 0]) ∧ Sg feC 1 w' (some ⟨g, 0, none⟩) 1 1 [5] ∧ Below w.heap.size w w' := by
  refine (decode_yes A 4 c [5, 5, 7, 5] 4 0 2 rfl rfl (by omega) (by omega) (by omega) w hX).mono ?_
  rintro e w' ⟨v, dd, er, rfl, h, hb⟩
  rcases h with ⟨rfl, f, hf, hl, hd, rfl, g, rfl, hs⟩ | ⟨_, _, _, hno⟩
  · have hl : f.length ≤ 1 := hl
    have hd : (Gold.differF 4 2 (Gold.cfF [5, 5, 7, 5]) f).length ≤ 1 := hd
    have h1 := Gold.dec_one hl
    have h5 : Gold.cfF f 0 = 5 := by
      by_cases h5 : Gold.cfF f 0 = 5
      · exact h5
      · rw [if_neg h5] at h1
        split at h1 <;> omega
    rw [if_pos h5] at h1
    refine ⟨g, by show Ending.returned (.tuple #[_, .int .i64 (((Gold.differF 4 2 (Gold.cfF [5, 5, 7, 5]) f).length : Nat) : Int), _]) = _; rw [h1]; rfl, ?_, hb⟩
    have hs : Sg feC 1 w' (some ⟨g, 0, none⟩) 1 1 (Gold.tbF 1 (Gold.cfF f)) := hs
    rw [Gold.tbF_one, h5] at hs
    exact hs
  · have h1 := hno [5] (by decide)
    have h2 : (Gold.differF 4 2 (Gold.cfF [5, 5, 7, 5]) [5]).length = 1 := by rw [Gold.dec_one (by simp)]; rfl
    have h1 : (4 - 1) / 2 < (Gold.differF 4 2 (Gold.cfF [5, 5, 7, 5]) [5]).length := h1
    omega
theorem decode_two (A : Option Addr) (c : Nat) (w : World) (hX : Sg feC 1 w A 4 c [5, 5, 7, 7]) :
    Calls Try.prog 29 #[.slice A 4 c, .int .i64 4] w fun e w' => e = .returned (.tuple #[.slice none 0 0, .int .i64 0, .int .i64 4]) ∧ Below w.heap.size w w' := by
  refine (decode_yes A 4 c [5, 5, 7, 7] 4 0 2 rfl rfl (by omega) (by omega) (by omega) w hX).mono ?_
  rintro e w' ⟨v, dd, er, rfl, h, hb⟩
  rcases h with ⟨rfl, f, hf, hl, hd, _⟩ | ⟨rfl, rfl, rfl, _⟩
  · have hl : f.length ≤ 1 := hl
    have hd : (Gold.differF 4 2 (Gold.cfF [5, 5, 7, 7]) f).length ≤ (4 - 1) / 2 := hd
    have := Gold.dec_two hl
    omega
  · exact ⟨rfl, hb⟩
end Go.Proofs.Ytnekndakipggbaa

