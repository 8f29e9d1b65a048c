/- A law of stage 12: ReadingMatchesReference. -/
import Derived.Test.YtopicjdmajlndaaDoorJ16
namespace Go.Proofs.YtopicjdmajlndaaDoor
set_option linter.unusedVariables false
set_option linter.unusedSimpArgs false
set_option linter.unusedSectionVars false
set_option maxRecDepth 8000
open Go.RowKit Go.Proofs.YtopicjdmajlndaaDoor.K
attribute [local irreducible] wpList wpQuiet
/-- what Take answers -/
def takeA (rs : List Rd) (gs : List Bool) (r : Rd) : List Rd × List Bool × Nat := if vR r = true then (rs ++ [r], gs ++ [false], 0) else ([], [], 1)
/-- what Retract answers -/
def retrA (rs : List Rd) (gs : List Bool) (z : Int) : List Rd × List Bool × Nat :=
  if 0 ≤ z ∧ z < (rs.length : Int) then (if gs.getD z.toNat false = true then ([], [], 120) else (rs, gs.set z.toNat true, 0)) else ([], [], 4)
/-- what Decode answers -/
def decA : List Nat → Rd × Nat
  | [x, y, z] => (decR x y z, 0)
  | _ => (Rd.mk 0 0 0 0, 5)
/-- what Columns answers -/
def colsA (rs : List Rd) (gs : List Bool) (z : Int) : List (List Nat) × Nat :=
  if 0 ≤ z ∧ z ≤ 16 then (if rs.length ≤ 2 ^ z.toNat then (colsN rs gs (2 ^ z.toNat), 0) else ([], 2)) else ([], 1)
def bitsA (rs : List Rd) (gs : List Bool) (z : Int) : List (List Nat) × Nat :=
  if 0 ≤ z ∧ z ≤ 16 then (if rs.length ≤ 2 ^ z.toNat then (bitsN (colsN rs gs (2 ^ z.toNat)) 4, 0) else ([], 2)) else ([], 1)
theorem decA_no {xs : List Nat} (h : xs.length ≠ 3) : decA xs = (Rd.mk 0 0 0 0, 5) := by
  match xs, h with
  | [], _ => rfl
  | [_], _ => rfl
  | [_, _], _ => rfl
  | [_, _, _], h => exact absurd rfl h
  | _ :: _ :: _ :: _ :: _, _ => rfl
theorem take_all (A : Option Addr) (n c : Nat) (rs : List Rd) (B : Option Addr) (d : Nat) (gs : List Bool) (r : Rd) (hn : n < 65536) (rs2 : List Rd) (gs2 : List Bool) (k : Nat) (ha : takeA rs gs r = (rs2, gs2, k)) (n2 : Nat) (hn2 : rs2.length = n2) (w : World) (hL : Sg rdC 4 w A n c rs) (hG : Sg boC 1 w B n d gs) (hW : Gw w) : Calls Tryd.prog 12 #[.agg #[.slice A n c, .slice B n d], .agg #[.int .i64 r.who, .int .i64 r.when_, .int .i64 r.kind, .int .i64 r.value]] w fun e w' => ∃ A2 c2 B2 d2, e = .returned (.tuple #[.agg #[.slice A2 n2 c2, .slice B2 n2 d2], .int .i64 (k : Int)]) ∧ Sg rdC 4 w' A2 n2 c2 rs2 ∧ Sg boC 1 w' B2 n2 d2 gs2 ∧ Below w.heap.size w w' := by
  unfold takeA at ha
  cases hv : vR r with
  | true =>
    rw [if_pos hv] at ha
    simp only [Prod.mk.injEq] at ha
    obtain ⟨rfl, rfl, rfl⟩ := ha
    rw [List.length_append, hL.len] at hn2
    subst hn2
    exact take_yes A n c rs B d gs r hv hn w hL hG hW
  | false =>
    rw [hv, if_neg (by decide)] at ha
    simp only [Prod.mk.injEq] at ha
    obtain ⟨rfl, rfl, rfl⟩ := ha
    subst hn2
    refine (take_no A n c rs B d gs r hv w hL hG hW).mono ?_
    rintro e w' ⟨rfl, hb⟩
    exact ⟨_, _, _, _, rfl, Sg.nil_ _, Sg.nil_ _, hb⟩
theorem retract_all (A : Option Addr) (n c : Nat) (rs : List Rd) (B : Option Addr) (d : Nat) (gs : List Bool) (z : Int) (hn : n ≤ 1000000) (rs2 : List Rd) (gs2 : List Bool) (k : Nat) (ha : retrA rs gs z = (rs2, gs2, k)) (n2 : Nat) (hn2 : rs2.length = n2) (w : World) (hL : Sg rdC 4 w A n c rs) (hG : Sg boC 1 w B n d gs) : Calls Tryd.prog 14 #[.agg #[.slice A n c, .slice B n d], .int .i64 z] w fun e w' => ∃ A2 c2 B2 d2, e = .returned (.tuple #[.agg #[.slice A2 n2 c2, .slice B2 n2 d2], .int .i64 (k : Int)]) ∧ Sg rdC 4 w' A2 n2 c2 rs2 ∧ Sg boC 1 w' B2 n2 d2 gs2 ∧ Below w.heap.size w w' := by
  unfold retrA at ha
  have hl := hL.len
  have hg := hG.len
  by_cases hz : 0 ≤ z ∧ z < (rs.length : Int)
  · rw [if_pos hz] at ha
    obtain ⟨i, rfl⟩ : ∃ i : Nat, z = (i : Int) := ⟨z.toNat, by omega⟩
    rw [Int.toNat_natCast] at ha
    obtain ⟨g, hgg⟩ : ∃ g, gs[i]? = some g := ⟨_, List.getElem?_eq_getElem (by omega)⟩
    rw [List.getD_eq_getElem?_getD, hgg] at ha
    cases g with
    | true =>
      simp only [Option.getD_some, if_true, Prod.mk.injEq] at ha
      obtain ⟨rfl, rfl, rfl⟩ := ha
      subst hn2
      refine (retract_spent A n c rs B d gs i hgg hn w hL hG).mono ?_
      rintro e w' ⟨rfl, hb⟩
      exact ⟨_, _, _, _, rfl, Sg.nil_ _, Sg.nil_ _, hb⟩
    | false =>
      simp only [Option.getD_some, Bool.false_eq_true, if_false, Prod.mk.injEq] at ha
      obtain ⟨rfl, rfl, rfl⟩ := ha
      rw [hl] at hn2
      subst hn2
      exact retract_ok A n c rs B d gs i hgg hn w hL hG
  · rw [if_neg hz] at ha
    simp only [Prod.mk.injEq] at ha
    obtain ⟨rfl, rfl, rfl⟩ := ha
    subst hn2
    refine (retract_out A n c rs B d gs z (by omega) w hL hG).mono ?_
    rintro e w' ⟨rfl, hb⟩
    exact ⟨_, _, _, _, rfl, Sg.nil_ _, Sg.nil_ _, hb⟩
theorem decode_all (A : Option Addr) (n c : Nat) (xs : List Nat) (h8 : ∀ x ∈ xs, x < 256) (r : Rd) (k : Nat) (ha : decA xs = (r, k)) (w : World) (h : Sg byC 1 w A n c xs) : Calls Tryd.prog 23 #[.slice A n c] w fun e w' => e = .returned (.tuple #[.agg #[.int .i64 r.who, .int .i64 r.when_, .int .i64 r.kind, .int .i64 r.value], .int .i64 (k : Int)]) ∧ Below w.heap.size w w' := by
  have hl := h.len
  by_cases h3 : n = 3
  · subst h3
    match xs, hl with
    | [x, y, z], _ =>
      simp only [decA, Prod.mk.injEq] at ha
      obtain ⟨rfl, rfl⟩ := ha
      exact decode_yes A c x y z (h8 x (by simp)) (h8 y (by simp)) (h8 z (by simp)) w h
  · rw [decA_no (by omega)] at ha
    simp only [Prod.mk.injEq] at ha
    obtain ⟨rfl, rfl⟩ := ha
    exact decode_no A n c h3 w
theorem cols_all (A : Option Addr) (n c : Nat) (rs : List Rd) (B : Option Addr) (d : Nat) (gs : List Bool) (z : Int) (hv : ∀ r ∈ rs, vR r = true) (xss : List (List Nat)) (k : Nat) (ha : colsA rs gs z = (xss, k)) (N : Nat) (hN : xss.length = N) (w : World) (hL : Sg rdC 4 w A n c rs) (hG : Sg boC 1 w B n d gs) : Calls Tryd.prog 19 #[.agg #[.slice A n c, .slice B n d], .int .i64 z] w fun e w' => ∃ A2 c2, e = .returned (.tuple #[.slice A2 N c2, .int .i64 (k : Int)]) ∧ (∃ hs, Cols w' A2 N c2 hs xss) ∧ Below w.heap.size w w' := by
  unfold colsA at ha
  have hl := hL.len
  by_cases hz : 0 ≤ z ∧ z ≤ 16
  · rw [if_pos hz] at ha
    obtain ⟨i, rfl⟩ : ∃ i : Nat, z = (i : Int) := ⟨z.toNat, by omega⟩
    rw [Int.toNat_natCast] at ha
    by_cases hm : rs.length ≤ 2 ^ i
    · rw [if_pos hm] at ha
      simp only [Prod.mk.injEq] at ha
      obtain ⟨rfl, rfl⟩ := ha
      obtain rfl : N = 5 := by rw [← hN]; simp [colsN]
      exact cols_yesC A n c rs B d gs i (by omega) (by omega) hv w hL hG
    · rw [if_neg hm] at ha
      simp only [Prod.mk.injEq] at ha
      obtain ⟨rfl, rfl⟩ := ha
      subst hN
      refine (cols_big A n c rs B d gs i (by omega) (by omega) w hL hG).mono ?_
      rintro e w' ⟨rfl, hb⟩
      exact ⟨_, _, rfl, ⟨[], Cols.of (Sg.nil_ _) trivial⟩, hb⟩
  · rw [if_neg hz] at ha
    simp only [Prod.mk.injEq] at ha
    obtain ⟨rfl, rfl⟩ := ha
    subst hN
    refine (cols_arg A n c rs B d gs z (by omega) w hL hG).mono ?_
    rintro e w' ⟨rfl, hb⟩
    exact ⟨_, _, rfl, ⟨[], Cols.of (Sg.nil_ _) trivial⟩, hb⟩
theorem bits_all (A : Option Addr) (n c : Nat) (rs : List Rd) (B : Option Addr) (d : Nat) (gs : List Bool) (z : Int) (hv : ∀ r ∈ rs, vR r = true) (xss : List (List Nat)) (k : Nat) (ha : bitsA rs gs z = (xss, k)) (N : Nat) (hN : xss.length = N) (w : World) (hL : Sg rdC 4 w A n c rs) (hG : Sg boC 1 w B n d gs) (hW : Gw w) : Calls Tryd.prog 21 #[.agg #[.slice A n c, .slice B n d], .int .i64 z] w fun e w' => ∃ A2 c2, e = .returned (.tuple #[.slice A2 N c2, .int .i64 (k : Int)]) ∧ (∃ hs, Cols w' A2 N c2 hs xss) ∧ Below w.heap.size w w' := by
  unfold bitsA at ha
  have hl := hL.len
  by_cases hz : 0 ≤ z ∧ z ≤ 16
  · rw [if_pos hz] at ha
    obtain ⟨i, rfl⟩ : ∃ i : Nat, z = (i : Int) := ⟨z.toNat, by omega⟩
    rw [Int.toNat_natCast] at ha
    by_cases hm : rs.length ≤ 2 ^ i
    · rw [if_pos hm] at ha
      simp only [Prod.mk.injEq] at ha
      obtain ⟨rfl, rfl⟩ := ha
      obtain rfl : N = 24 := by rw [← hN]; exact bitsN_24 _
      exact bits_yes A n c rs B d gs i (by omega) (by omega) hv w hL hG hW
    · rw [if_neg hm] at ha
      simp only [Prod.mk.injEq] at ha
      obtain ⟨rfl, rfl⟩ := ha
      subst hN
      refine (bits_big A n c rs B d gs i (by omega) (by omega) w hL hG).mono ?_
      rintro e w' ⟨rfl, hb⟩
      exact ⟨_, _, rfl, ⟨[], Cols.of (Sg.nil_ _) trivial⟩, hb⟩
  · rw [if_neg hz] at ha
    simp only [Prod.mk.injEq] at ha
    obtain ⟨rfl, rfl⟩ := ha
    subst hN
    refine (bits_arg A n c rs B d gs z (by omega) w hL hG).mono ?_
    rintro e w' ⟨rfl, hb⟩
    exact ⟨_, _, rfl, ⟨[], Cols.of (Sg.nil_ _) trivial⟩, hb⟩
theorem rtake_all (A : Option Addr) (n c : Nat) (rs : List Rd) (B : Option Addr) (d : Nat) (gs : List Bool) (r : Rd) (hn : n < 65536) (rs2 : List Rd) (gs2 : List Bool) (k : Nat) (ha : takeA rs gs r = (rs2, gs2, k)) (n2 : Nat) (hn2 : rs2.length = n2) (w : World) (hL : Sg rdC 4 w A n c rs) (hG : Sg boC 1 w B n d gs) : Calls Tryd.prog 13 #[.agg #[.slice A n c, .slice B n d], .agg #[.int .i64 r.who, .int .i64 r.when_, .int .i64 r.kind, .int .i64 r.value]] w fun e w' => ∃ A2 c2 B2 d2, e = .returned (.tuple #[.agg #[.slice A2 n2 c2, .slice B2 n2 d2], .int .i64 (k : Int)]) ∧ Sg rdC 4 w' A2 n2 c2 rs2 ∧ Sg boC 1 w' B2 n2 d2 gs2 ∧ Below w.heap.size w w' := by
  unfold takeA at ha
  cases hv : vR r with
  | true =>
    rw [if_pos hv] at ha
    simp only [Prod.mk.injEq] at ha
    obtain ⟨rfl, rfl, rfl⟩ := ha
    rw [List.length_append, hL.len] at hn2
    subst hn2
    exact rtake_yes A n c rs B d gs r hv hn w hL hG
  | false =>
    rw [hv, if_neg (by decide)] at ha
    simp only [Prod.mk.injEq] at ha
    obtain ⟨rfl, rfl, rfl⟩ := ha
    subst hn2
    refine (rtake_no A n c rs B d gs r hv w hL hG).mono ?_
    rintro e w' ⟨rfl, hb⟩
    exact ⟨_, _, _, _, rfl, Sg.nil_ _, Sg.nil_ _, hb⟩
theorem rretract_all (A : Option Addr) (n c : Nat) (rs : List Rd) (B : Option Addr) (d : Nat) (gs : List Bool) (z : Int) (hn : n ≤ 1000000) (rs2 : List Rd) (gs2 : List Bool) (k : Nat) (ha : retrA rs gs z = (rs2, gs2, k)) (n2 : Nat) (hn2 : rs2.length = n2) (w : World) (hL : Sg rdC 4 w A n c rs) (hG : Sg boC 1 w B n d gs) : Calls Tryd.prog 15 #[.agg #[.slice A n c, .slice B n d], .int .i64 z] w fun e w' => ∃ A2 c2 B2 d2, e = .returned (.tuple #[.agg #[.slice A2 n2 c2, .slice B2 n2 d2], .int .i64 (k : Int)]) ∧ Sg rdC 4 w' A2 n2 c2 rs2 ∧ Sg boC 1 w' B2 n2 d2 gs2 ∧ Below w.heap.size w w' := by
  unfold retrA at ha
  have hl := hL.len
  have hg := hG.len
  by_cases hz : 0 ≤ z ∧ z < (rs.length : Int)
  · rw [if_pos hz] at ha
    obtain ⟨i, rfl⟩ : ∃ i : Nat, z = (i : Int) := ⟨z.toNat, by omega⟩
    rw [Int.toNat_natCast] at ha
    obtain ⟨g, hgg⟩ : ∃ g, gs[i]? = some g := ⟨_, List.getElem?_eq_getElem (by omega)⟩
    rw [List.getD_eq_getElem?_getD, hgg] at ha
    cases g with
    | true =>
      simp only [Option.getD_some, if_true, Prod.mk.injEq] at ha
      obtain ⟨rfl, rfl, rfl⟩ := ha
      subst hn2
      refine (rretract_spent A n c rs B d gs i hgg hn w hL hG).mono ?_
      rintro e w' ⟨rfl, hb⟩
      exact ⟨_, _, _, _, rfl, Sg.nil_ _, Sg.nil_ _, hb⟩
    | false =>
      simp only [Option.getD_some, Bool.false_eq_true, if_false, Prod.mk.injEq] at ha
      obtain ⟨rfl, rfl, rfl⟩ := ha
      rw [hl] at hn2
      subst hn2
      exact rretract_ok A n c rs B d gs i hgg hn w hL hG
  · rw [if_neg hz] at ha
    simp only [Prod.mk.injEq] at ha
    obtain ⟨rfl, rfl, rfl⟩ := ha
    subst hn2
    refine (rretract_out A n c rs B d gs z (by omega) w hL hG).mono ?_
    rintro e w' ⟨rfl, hb⟩
    exact ⟨_, _, _, _, rfl, Sg.nil_ _, Sg.nil_ _, hb⟩
theorem rdecode_all (A : Option Addr) (n c : Nat) (xs : List Nat) (h8 : ∀ x ∈ xs, x < 256) (r : Rd) (k : Nat) (ha : decA xs = (r, k)) (w : World) (h : Sg byC 1 w A n c xs) : Calls Tryd.prog 24 #[.slice A n c] w fun e w' => e = .returned (.tuple #[.agg #[.int .i64 r.who, .int .i64 r.when_, .int .i64 r.kind, .int .i64 r.value], .int .i64 (k : Int)]) ∧ Below w.heap.size w w' := by
  have hl := h.len
  by_cases h3 : n = 3
  · subst h3
    match xs, hl with
    | [x, y, z], _ =>
      simp only [decA, Prod.mk.injEq] at ha
      obtain ⟨rfl, rfl⟩ := ha
      exact rdecode_yes A c x y z (h8 x (by simp)) (h8 y (by simp)) (h8 z (by simp)) w h
  · rw [decA_no (by omega)] at ha
    simp only [Prod.mk.injEq] at ha
    obtain ⟨rfl, rfl⟩ := ha
    exact rdecode_no A n c h3 w
theorem rcols_all (A : Option Addr) (n c : Nat) (rs : List Rd) (B : Option Addr) (d : Nat) (gs : List Bool) (z : Int) (hv : ∀ r ∈ rs, vR r = true) (xss : List (List Nat)) (k : Nat) (ha : colsA rs gs z = (xss, k)) (N : Nat) (hN : xss.length = N) (w : World) (hL : Sg rdC 4 w A n c rs) (hG : Sg boC 1 w B n d gs) : Calls Tryd.prog 20 #[.agg #[.slice A n c, .slice B n d], .int .i64 z] w fun e w' => ∃ A2 c2, e = .returned (.tuple #[.slice A2 N c2, .int .i64 (k : Int)]) ∧ (∃ hs, Cols w' A2 N c2 hs xss) ∧ Below w.heap.size w w' := by
  unfold colsA at ha
  have hl := hL.len
  by_cases hz : 0 ≤ z ∧ z ≤ 16
  · rw [if_pos hz] at ha
    obtain ⟨i, rfl⟩ : ∃ i : Nat, z = (i : Int) := ⟨z.toNat, by omega⟩
    rw [Int.toNat_natCast] at ha
    by_cases hm : rs.length ≤ 2 ^ i
    · rw [if_pos hm] at ha
      simp only [Prod.mk.injEq] at ha
      obtain ⟨rfl, rfl⟩ := ha
      obtain rfl : N = 5 := by rw [← hN]; simp [colsN]
      exact rcols_yes A n c rs B d gs i (by omega) (by omega) hv w hL hG
    · rw [if_neg hm] at ha
      simp only [Prod.mk.injEq] at ha
      obtain ⟨rfl, rfl⟩ := ha
      subst hN
      refine (rcols_big A n c rs B d gs i (by omega) (by omega) w hL hG).mono ?_
      rintro e w' ⟨rfl, hb⟩
      exact ⟨_, _, rfl, ⟨[], Cols.of (Sg.nil_ _) trivial⟩, hb⟩
  · rw [if_neg hz] at ha
    simp only [Prod.mk.injEq] at ha
    obtain ⟨rfl, rfl⟩ := ha
    subst hN
    refine (rcols_arg A n c rs B d gs z (by omega) w hL hG).mono ?_
    rintro e w' ⟨rfl, hb⟩
    exact ⟨_, _, rfl, ⟨[], Cols.of (Sg.nil_ _) trivial⟩, hb⟩
theorem rbits_all (A : Option Addr) (n c : Nat) (rs : List Rd) (B : Option Addr) (d : Nat) (gs : List Bool) (z : Int) (hv : ∀ r ∈ rs, vR r = true) (xss : List (List Nat)) (k : Nat) (ha : bitsA rs gs z = (xss, k)) (N : Nat) (hN : xss.length = N) (w : World) (hL : Sg rdC 4 w A n c rs) (hG : Sg boC 1 w B n d gs) : Calls Tryd.prog 22 #[.agg #[.slice A n c, .slice B n d], .int .i64 z] w fun e w' => ∃ A2 c2, e = .returned (.tuple #[.slice A2 N c2, .int .i64 (k : Int)]) ∧ (∃ hs, Cols w' A2 N c2 hs xss) ∧ Below w.heap.size w w' := by
  unfold bitsA at ha
  have hl := hL.len
  by_cases hz : 0 ≤ z ∧ z ≤ 16
  · rw [if_pos hz] at ha
    obtain ⟨i, rfl⟩ : ∃ i : Nat, z = (i : Int) := ⟨z.toNat, by omega⟩
    rw [Int.toNat_natCast] at ha
    by_cases hm : rs.length ≤ 2 ^ i
    · rw [if_pos hm] at ha
      simp only [Prod.mk.injEq] at ha
      obtain ⟨rfl, rfl⟩ := ha
      obtain rfl : N = 24 := by rw [← hN]; exact bitsN_24 _
      exact rbits_yes A n c rs B d gs i (by omega) (by omega) hv w hL hG
    · rw [if_neg hm] at ha
      simp only [Prod.mk.injEq] at ha
      obtain ⟨rfl, rfl⟩ := ha
      subst hN
      refine (rbits_big A n c rs B d gs i (by omega) (by omega) w hL hG).mono ?_
      rintro e w' ⟨rfl, hb⟩
      exact ⟨_, _, rfl, ⟨[], Cols.of (Sg.nil_ _) trivial⟩, hb⟩
  · rw [if_neg hz] at ha
    simp only [Prod.mk.injEq] at ha
    obtain ⟨rfl, rfl⟩ := ha
    subst hN
    refine (rbits_arg A n c rs B d gs z (by omega) w hL hG).mono ?_
    rintro e w' ⟨rfl, hb⟩
    exact ⟨_, _, rfl, ⟨[], Cols.of (Sg.nil_ _) trivial⟩, hb⟩
set_option maxRecDepth 100000 in
set_option maxHeartbeats 16000000 in
theorem rMatches_any (A : Option Addr) (n c : Nat) (ops : List Opn) (hby : ∀ o ∈ ops, o.b0 < 256 ∧ o.b1 < 256 ∧ o.b2 < 256) (r : Rd) (z : Int) (Ay : Option Addr) (ny cy : Nat) (xs : List Nat) (hb8 : ∀ x ∈ xs, x < 256) (w : World) (hM : Sg opC 4 w A n c ops) (hY : Sg byC 1 w Ay ny cy xs) (hW : Gw w) :
    Calls Tryd.prog 3 #[.slice A n c, .agg #[.int .i64 r.who, .int .i64 r.when_, .int .i64 r.kind, .int .i64 r.value], .int .i64 z, .slice Ay ny cy] w fun e w' => e = .returned (.bool true) ∧ Below w.heap.size w w' := by
  have HW := Lib.hid hW
  have HM := Lib.hid hM
  have HY := Lib.hid hY
  have HBY := Lib.hid hby
  have HB8 := Lib.hid hb8
  have hyc := hY.cap
  have hyt := hY.top
  clear hW hM hby hY hb8
  go_enter Tryd.func3, Tryd.ntmps3
  go_upto_region 1 with fail
  refine wp_named1 (fun V1 hb g0 hlt => ?_)
  have B0 := Lib.hid hb
  have Fv0_5 : Hid (V1.heap[w.heap.size]? = some (.cells #[.int .i64 r.who, .int .i64 r.when_, .int .i64 r.kind, .int .i64 r.value] 24 (0, 0))) := Lib.hid (g0)
  have Gb0 : Hid (w.heap.size ≤ w.heap.size) := Lib.hid (by omega)
  clear hb g0 hlt
  have Lt0 : Hid (w.heap.size < V1.heap.size) := Lib.hid (xp_lt Fv0_5.out)
  refine wp_region_lit ?_
  refine wpList_call (by kernel_rfl) 10 Tryd.func10 (by kernel_rfl) (by kernel_rfl) _ _ #[] rfl (by kernel_rfl) ?_
  refine (sanity12_any V1 (HW.out.keep B0.out)).mono ?_
  rintro e V2 ⟨rfl, hb⟩
  have B1 := Lib.hid hb
  clear hb 
  refine ⟨_, rfl, ?_⟩
  simp only [Act.put, List.setIfInBounds_toArray, List.set_cons_zero, List.set_cons_succ]
  refine wpList_run (by kernel_rfl) (.bool true) V2 rfl ?_
  simp only [Act.put, List.setIfInBounds_toArray, List.set_cons_zero, List.set_cons_succ]
  refine wpList_nil ?_
  go_upto_region 2 with fail
  refine wp_region_lit ?_
  refine wpList_run (by kernel_rfl) (.slice A n c) V2 rfl ?_
  simp only [Act.put, List.setIfInBounds_toArray, List.set_cons_zero, List.set_cons_succ]
  have C0_2 := Lib.hid (bel_step B0.out B1.out)
  refine wpList_call (by kernel_rfl) 11 Tryd.func11 (by kernel_rfl) (by kernel_rfl) _ _ #[.slice A n c, .int .i64 20] rfl (by kernel_rfl) ?_
  refine (rmade_any A n c ops 20 (by omega) HBY.out V2 (HM.out.keep C0_2.out)).mono ?_
  rintro e V3 ⟨rs, gs, m, A2, c2, E2, d2, rfl, hmd, hst, hs1, hs2, hb⟩
  have B2 := Lib.hid hb
  have HL := Lib.hid hs1
  have HG := Lib.hid hs2
  clear hb hs1 hs2
  refine ⟨_, rfl, ?_⟩
  simp only [Act.put, List.setIfInBounds_toArray, List.set_cons_zero, List.set_cons_succ]
  refine wpList_new #[.slice none 0 0, .slice none 0 0] 30 (by kernel_rfl) (xo_alloc #[.slice none 0 0, .slice none 0 0] (by kernel_rfl) rfl) ?_
  intro b10 V4 hge h0 hb
  have C1_3 := Lib.hid (bel_step B1.out B2.out)
  have N1_0 : Hid (w.heap.size ≠ b10) := Lib.hid (xp_lt0 (heap_keep Fv0_5.out C1_3.out) hge)
  have Ge2 : Hid (V3.heap.size ≤ b10) := Lib.hid hge
  have B3 := Lib.hid hb
  have Fv3_10 : Hid (V4.heap[b10]? = some (.cells #[.slice none 0 0, .slice none 0 0] 30 (0, 0))) := Lib.hid (h0)
  have Lt4 : Hid (b10 < V4.heap.size) := Lib.hid (xp_lt Fv3_10.out)
  clear hge h0 hb
  simp only [ptr, Act.put, List.setIfInBounds_toArray, List.set_cons_zero, List.set_cons_succ]
  refine wpList_storeW b10 #[.slice none 0 0, .slice none 0 0] #[.slice A2 m c2, .slice E2 m d2] 30 (by kernel_rfl) Fv3_10.out (xo_storeW b10 #[.slice none 0 0, .slice none 0 0] #[.slice A2 m c2, .slice E2 m d2] Fv3_10.out (by kernel_rfl) rfl (by simp [Value.oneCell']) rfl rfl rfl) ?_
  intro X4_5 h1 hfar hbel hsz
  have hbr := hbel _ _ Ge2.out B3.out
  clear B3
  have B3 := Lib.hid hbr
  clear hbr
  clear Fv3_10
  have Fv3_10 : Hid (X4_5.heap[b10]? = some (.cells #[.slice A2 m c2, .slice E2 m d2] 30 (0, 0))) := Lib.hid (h1)
  have HszX4_5 := Lib.hid hsz
  clear h1 hfar hbel hsz
  simp only [ptr, Act.put, List.setIfInBounds_toArray, List.set_cons_zero, List.set_cons_succ]
  refine wpList_nil ?_
  have hmr := HL.out.len
  have hmg := HG.out.len
  have hmm := hst.most
  have HST := Lib.hid hst
  clear hmd hst
  by_cases hn20 : ny > 20
  · have hci6 : ((ny : Int) > 20) := by omega
    go_upto_region 3 with fail
    refine wp_region_lit ?_
    refine wpList_run (by kernel_rfl) (.slice Ay ny cy) X4_5 rfl ?_
    simp only [Act.put, List.setIfInBounds_toArray, List.set_cons_zero, List.set_cons_succ]
    refine wpList_run (by kernel_rfl) (.int .i64 (ny : Int)) X4_5 (xo_len Ay ny cy Tryd.underlying25 rfl rfl) ?_
    simp only [Act.put, List.setIfInBounds_toArray, List.set_cons_zero, List.set_cons_succ]
    refine wpList_run (by kernel_rfl) (.bool true) X4_5 (xo_gtrT .i64 (ny : Int) 20 (by omega) rfl rfl rfl) ?_
    simp only [Act.put, List.setIfInBounds_toArray, List.set_cons_zero, List.set_cons_succ]
    refine wpList_nil ?_
    go_upto_region 4 with fail
    refine wp_region_lit ?_
    refine wpList_run (by kernel_rfl) (.bool true) X4_5 rfl ?_
    simp only [Act.put, List.setIfInBounds_toArray, List.set_cons_zero, List.set_cons_succ]
    refine wpList_run (by kernel_rfl) (.bool true) X4_5 rfl ?_
    simp only [Act.put, List.setIfInBounds_toArray, List.set_cons_zero, List.set_cons_succ]
    refine wpList_nil ?_
    go_wp2_with fail
    go_ret
    have C0_3 := Lib.hid (bel_step C0_2.out B2.out)
    have C0_4 := Lib.hid (bel_step C0_3.out B3.out)
    exact ⟨rfl, C0_4.out⟩
  · have hci6 : ¬ ((ny : Int) > 20) := by omega
    go_upto_region 3 with fail
    refine wp_region_lit ?_
    refine wpList_run (by kernel_rfl) (.slice Ay ny cy) X4_5 rfl ?_
    simp only [Act.put, List.setIfInBounds_toArray, List.set_cons_zero, List.set_cons_succ]
    refine wpList_run (by kernel_rfl) (.int .i64 (ny : Int)) X4_5 (xo_len Ay ny cy Tryd.underlying25 rfl rfl) ?_
    simp only [Act.put, List.setIfInBounds_toArray, List.set_cons_zero, List.set_cons_succ]
    refine wpList_run (by kernel_rfl) (.bool false) X4_5 (xo_gtrF .i64 (ny : Int) 20 (by omega) rfl rfl rfl) ?_
    simp only [Act.put, List.setIfInBounds_toArray, List.set_cons_zero, List.set_cons_succ]
    refine wpList_nil ?_
    obtain ⟨⟨rt, gt, kt⟩, ht⟩ : ∃ t, takeA rs gs r = t := ⟨_, rfl⟩
    have HTA := Lib.hid ht
    clear ht
    obtain ⟨⟨ru, gu, ku⟩, hu⟩ : ∃ t, retrA rs gs r.when_ = t := ⟨_, rfl⟩
    have HUA := Lib.hid hu
    clear hu
    obtain ⟨vb, hvb⟩ : ∃ b, vR r = b := ⟨_, rfl⟩
    have HVB := Lib.hid hvb
    clear hvb
    obtain ⟨⟨rd0, kd⟩, hd⟩ : ∃ t, decA xs = t := ⟨_, rfl⟩
    have HDA := Lib.hid hd
    clear hd
    obtain ⟨x, hx⟩ : ∃ x : Nat, r.who % 256 = (x : Int) := ⟨(r.who % 256).toNat, by omega⟩
    obtain ⟨y, hy⟩ : ∃ x : Nat, r.when_ % 256 = (x : Int) := ⟨(r.when_ % 256).toNat, by omega⟩
    obtain ⟨q, hq⟩ : ∃ x : Nat, r.value % 256 = (x : Int) := ⟨(r.value % 256).toNat, by omega⟩
    have hx8 : x < 256 := by omega
    have hy8 : y < 256 := by omega
    have hq8 : q < 256 := by omega
    obtain ⟨nt, hnt⟩ : ∃ n, rt.length = n := ⟨_, rfl⟩
    have HNT := Lib.hid hnt
    obtain ⟨nu, hnu⟩ : ∃ n, ru.length = n := ⟨_, rfl⟩
    have HNU := Lib.hid hnu
    clear hnt hnu
    go_upto_region 5 with fail
    refine wp_region_lit ?_
    refine wpList_run (by kernel_rfl) (.agg #[.slice A2 m c2, .slice E2 m d2]) X4_5 (xo_loadW b10 _ Fv3_10.out Tryd.underlying30 rfl (by kernel_rfl) rfl rfl) ?_
    simp only [Act.put, List.setIfInBounds_toArray, List.set_cons_zero, List.set_cons_succ]
    have C1_4 := Lib.hid (bel_step C1_3.out B3.out)
    refine wpList_run (by kernel_rfl) (.agg #[.int .i64 r.who, .int .i64 r.when_, .int .i64 r.kind, .int .i64 r.value]) X4_5 (xo_loadW w.heap.size _ (heap_keep Fv0_5.out C1_4.out) Tryd.underlying24 rfl (by kernel_rfl) rfl rfl) ?_
    simp only [Act.put, List.setIfInBounds_toArray, List.set_cons_zero, List.set_cons_succ]
    have C0_3 := Lib.hid (bel_step C0_2.out B2.out)
    have C0_4 := Lib.hid (bel_step C0_3.out B3.out)
    refine wpList_call (by kernel_rfl) 12 Tryd.func12 (by kernel_rfl) (by kernel_rfl) _ _ #[.agg #[.slice A2 m c2, .slice E2 m d2], .agg #[.int .i64 r.who, .int .i64 r.when_, .int .i64 r.kind, .int .i64 r.value]] rfl (by kernel_rfl) ?_
    refine (take_all A2 m c2 rs E2 d2 gs r (by omega) rt gt kt HTA.out nt HNT.out X4_5 (HL.out.keep B3.out) (HG.out.keep B3.out) (HW.out.keep C0_4.out)).mono ?_
    rintro e V5 ⟨At1, ct1, Bt1, dt1, rfl, hs1, hs2, hb⟩
    have B4 := Lib.hid hb
    have HLt1 := Lib.hid hs1
    have HGt1 := Lib.hid hs2
    clear hb hs1 hs2
    refine ⟨_, rfl, ?_⟩
    simp only [Act.put, List.setIfInBounds_toArray, List.set_cons_zero, List.set_cons_succ]
    refine wpList_run (by kernel_rfl) (.tuple #[.agg #[.slice At1 nt ct1, .slice Bt1 nt dt1], .int .i64 (kt : Int)]) V5 rfl ?_
    simp only [Act.put, List.setIfInBounds_toArray, List.set_cons_zero, List.set_cons_succ]
    refine wpList_run (by kernel_rfl) (.agg #[.slice At1 nt ct1, .slice Bt1 nt dt1]) V5 rfl ?_
    simp only [Act.put, List.setIfInBounds_toArray, List.set_cons_zero, List.set_cons_succ]
    refine wpList_run (by kernel_rfl) (.int .i64 (kt : Int)) V5 rfl ?_
    simp only [Act.put, List.setIfInBounds_toArray, List.set_cons_zero, List.set_cons_succ]
    refine wpList_new #[.slice none 0 0, .slice none 0 0] 30 (by kernel_rfl) (xo_alloc #[.slice none 0 0, .slice none 0 0] (by kernel_rfl) rfl) ?_
    intro b11 V6 hge h0 hb
    have C1_5 := Lib.hid (bel_step C1_4.out B4.out)
    have N7_0 : Hid (w.heap.size ≠ b11) := Lib.hid (xp_lt0 (heap_keep Fv0_5.out C1_5.out) hge)
    have N8_1 : Hid (b10 ≠ b11) := Lib.hid (xp_lt0 (heap_keep Fv3_10.out B4.out) hge)
    have Ge9 : Hid (V5.heap.size ≤ b11) := Lib.hid hge
    have B5 := Lib.hid hb
    have Fv10_11 : Hid (V6.heap[b11]? = some (.cells #[.slice none 0 0, .slice none 0 0] 30 (0, 0))) := Lib.hid (h0)
    have Lt11 : Hid (b11 < V6.heap.size) := Lib.hid (xp_lt Fv10_11.out)
    clear hge h0 hb
    simp only [ptr, Act.put, List.setIfInBounds_toArray, List.set_cons_zero, List.set_cons_succ]
    refine wpList_storeW b11 #[.slice none 0 0, .slice none 0 0] #[.slice At1 nt ct1, .slice Bt1 nt dt1] 30 (by kernel_rfl) Fv10_11.out (xo_storeW b11 #[.slice none 0 0, .slice none 0 0] #[.slice At1 nt ct1, .slice Bt1 nt dt1] Fv10_11.out (by kernel_rfl) rfl (by simp [Value.oneCell']) rfl rfl rfl) ?_
    intro X6_12 h1 hfar hbel hsz
    have hbr := hbel _ _ Ge9.out B5.out
    clear B5
    have B5 := Lib.hid hbr
    clear hbr
    clear Fv10_11
    have Fv10_11 : Hid (X6_12.heap[b11]? = some (.cells #[.slice At1 nt ct1, .slice Bt1 nt dt1] 30 (0, 0))) := Lib.hid (h1)
    have HszX6_12 := Lib.hid hsz
    clear h1 hfar hbel hsz
    simp only [ptr, Act.put, List.setIfInBounds_toArray, List.set_cons_zero, List.set_cons_succ]
    refine wpList_run (by kernel_rfl) (.int .i64 (kt : Int)) X6_12 rfl ?_
    simp only [Act.put, List.setIfInBounds_toArray, List.set_cons_zero, List.set_cons_succ]
    refine wpList_nil ?_
    go_upto_region 6 with fail
    refine wp_region_lit ?_
    have C4_6 := Lib.hid (bel_step B4.out B5.out)
    refine wpList_run (by kernel_rfl) (.agg #[.slice A2 m c2, .slice E2 m d2]) X6_12 (xo_loadW b10 _ (heap_keep Fv3_10.out C4_6.out) Tryd.underlying30 rfl (by kernel_rfl) rfl rfl) ?_
    simp only [Act.put, List.setIfInBounds_toArray, List.set_cons_zero, List.set_cons_succ]
    have C1_6 := Lib.hid (bel_step C1_5.out B5.out)
    refine wpList_run (by kernel_rfl) (.agg #[.int .i64 r.who, .int .i64 r.when_, .int .i64 r.kind, .int .i64 r.value]) X6_12 (xo_loadW w.heap.size _ (heap_keep Fv0_5.out C1_6.out) Tryd.underlying24 rfl (by kernel_rfl) rfl rfl) ?_
    simp only [Act.put, List.setIfInBounds_toArray, List.set_cons_zero, List.set_cons_succ]
    have C3_5 := Lib.hid (bel_step B3.out B4.out)
    have C3_6 := Lib.hid (bel_step C3_5.out B5.out)
    refine wpList_call (by kernel_rfl) 13 Tryd.func13 (by kernel_rfl) (by kernel_rfl) _ _ #[.agg #[.slice A2 m c2, .slice E2 m d2], .agg #[.int .i64 r.who, .int .i64 r.when_, .int .i64 r.kind, .int .i64 r.value]] rfl (by kernel_rfl) ?_
    refine (rtake_all A2 m c2 rs E2 d2 gs r (by omega) rt gt kt HTA.out nt HNT.out X6_12 (HL.out.keep C3_6.out) (HG.out.keep C3_6.out)).mono ?_
    rintro e V7 ⟨At2, ct2, Bt2, dt2, rfl, hs1, hs2, hb⟩
    have B6 := Lib.hid hb
    have HLt2 := Lib.hid hs1
    have HGt2 := Lib.hid hs2
    clear hb hs1 hs2
    refine ⟨_, rfl, ?_⟩
    simp only [Act.put, List.setIfInBounds_toArray, List.set_cons_zero, List.set_cons_succ]
    refine wpList_run (by kernel_rfl) (.tuple #[.agg #[.slice At2 nt ct2, .slice Bt2 nt dt2], .int .i64 (kt : Int)]) V7 rfl ?_
    simp only [Act.put, List.setIfInBounds_toArray, List.set_cons_zero, List.set_cons_succ]
    refine wpList_run (by kernel_rfl) (.agg #[.slice At2 nt ct2, .slice Bt2 nt dt2]) V7 rfl ?_
    simp only [Act.put, List.setIfInBounds_toArray, List.set_cons_zero, List.set_cons_succ]
    refine wpList_run (by kernel_rfl) (.int .i64 (kt : Int)) V7 rfl ?_
    simp only [Act.put, List.setIfInBounds_toArray, List.set_cons_zero, List.set_cons_succ]
    refine wpList_new #[.slice none 0 0, .slice none 0 0] 30 (by kernel_rfl) (xo_alloc #[.slice none 0 0, .slice none 0 0] (by kernel_rfl) rfl) ?_
    intro b13 V8 hge h0 hb
    have C1_7 := Lib.hid (bel_step C1_6.out B6.out)
    have N13_0 : Hid (w.heap.size ≠ b13) := Lib.hid (xp_lt0 (heap_keep Fv0_5.out C1_7.out) hge)
    have C4_7 := Lib.hid (bel_step C4_6.out B6.out)
    have N14_1 : Hid (b10 ≠ b13) := Lib.hid (xp_lt0 (heap_keep Fv3_10.out C4_7.out) hge)
    have N15_2 : Hid (b11 ≠ b13) := Lib.hid (xp_lt0 (heap_keep Fv10_11.out B6.out) hge)
    have Ge16 : Hid (V7.heap.size ≤ b13) := Lib.hid hge
    have B7 := Lib.hid hb
    have Fv17_13 : Hid (V8.heap[b13]? = some (.cells #[.slice none 0 0, .slice none 0 0] 30 (0, 0))) := Lib.hid (h0)
    have Lt18 : Hid (b13 < V8.heap.size) := Lib.hid (xp_lt Fv17_13.out)
    clear hge h0 hb
    simp only [ptr, Act.put, List.setIfInBounds_toArray, List.set_cons_zero, List.set_cons_succ]
    refine wpList_storeW b13 #[.slice none 0 0, .slice none 0 0] #[.slice At2 nt ct2, .slice Bt2 nt dt2] 30 (by kernel_rfl) Fv17_13.out (xo_storeW b13 #[.slice none 0 0, .slice none 0 0] #[.slice At2 nt ct2, .slice Bt2 nt dt2] Fv17_13.out (by kernel_rfl) rfl (by simp [Value.oneCell']) rfl rfl rfl) ?_
    intro X8_19 h1 hfar hbel hsz
    have hbr := hbel _ _ Ge16.out B7.out
    clear B7
    have B7 := Lib.hid hbr
    clear hbr
    clear Fv17_13
    have Fv17_13 : Hid (X8_19.heap[b13]? = some (.cells #[.slice At2 nt ct2, .slice Bt2 nt dt2] 30 (0, 0))) := Lib.hid (h1)
    have HszX8_19 := Lib.hid hsz
    clear h1 hfar hbel hsz
    simp only [ptr, Act.put, List.setIfInBounds_toArray, List.set_cons_zero, List.set_cons_succ]
    refine wpList_run (by kernel_rfl) (.int .i64 (kt : Int)) X8_19 rfl ?_
    simp only [Act.put, List.setIfInBounds_toArray, List.set_cons_zero, List.set_cons_succ]
    refine wpList_nil ?_
    go_upto_region 7 with fail
    refine wp_region_lit ?_
    have C4_8 := Lib.hid (bel_step C4_7.out B7.out)
    refine wpList_run (by kernel_rfl) (.agg #[.slice A2 m c2, .slice E2 m d2]) X8_19 (xo_loadW b10 _ (heap_keep Fv3_10.out C4_8.out) Tryd.underlying30 rfl (by kernel_rfl) rfl rfl) ?_
    simp only [Act.put, List.setIfInBounds_toArray, List.set_cons_zero, List.set_cons_succ]
    refine wpList_run (by kernel_rfl) (.pointer (some ⟨w.heap.size, 1, none⟩)) X8_19 (xo_fld0 1 w.heap.size 1 (by kernel_rfl) rfl rfl) ?_
    simp only [Act.put, List.setIfInBounds_toArray, List.set_cons_zero, List.set_cons_succ]
    have C1_8 := Lib.hid (bel_step C1_7.out B7.out)
    refine wpList_run (by kernel_rfl) (.int .i64 r.when_) X8_19 (xo_load1 ⟨w.heap.size, 1, none⟩ _ (cells_at (heap_keep Fv0_5.out C1_8.out) 1 rfl) Tryd.underlying3 rfl rfl rfl) ?_
    simp only [Act.put, List.setIfInBounds_toArray, List.set_cons_zero, List.set_cons_succ]
    have C3_7 := Lib.hid (bel_step C3_6.out B6.out)
    have C3_8 := Lib.hid (bel_step C3_7.out B7.out)
    refine wpList_call (by kernel_rfl) 14 Tryd.func14 (by kernel_rfl) (by kernel_rfl) _ _ #[.agg #[.slice A2 m c2, .slice E2 m d2], .int .i64 r.when_] rfl (by kernel_rfl) ?_
    refine (retract_all A2 m c2 rs E2 d2 gs r.when_ (by omega) ru gu ku HUA.out nu HNU.out X8_19 (HL.out.keep C3_8.out) (HG.out.keep C3_8.out)).mono ?_
    rintro e V9 ⟨Au1, cu1, Bu1, du1, rfl, hs1, hs2, hb⟩
    have B8 := Lib.hid hb
    have HLu1 := Lib.hid hs1
    have HGu1 := Lib.hid hs2
    clear hb hs1 hs2
    refine ⟨_, rfl, ?_⟩
    simp only [Act.put, List.setIfInBounds_toArray, List.set_cons_zero, List.set_cons_succ]
    refine wpList_run (by kernel_rfl) (.tuple #[.agg #[.slice Au1 nu cu1, .slice Bu1 nu du1], .int .i64 (ku : Int)]) V9 rfl ?_
    simp only [Act.put, List.setIfInBounds_toArray, List.set_cons_zero, List.set_cons_succ]
    refine wpList_run (by kernel_rfl) (.agg #[.slice Au1 nu cu1, .slice Bu1 nu du1]) V9 rfl ?_
    simp only [Act.put, List.setIfInBounds_toArray, List.set_cons_zero, List.set_cons_succ]
    refine wpList_run (by kernel_rfl) (.int .i64 (ku : Int)) V9 rfl ?_
    simp only [Act.put, List.setIfInBounds_toArray, List.set_cons_zero, List.set_cons_succ]
    refine wpList_new #[.slice none 0 0, .slice none 0 0] 30 (by kernel_rfl) (xo_alloc #[.slice none 0 0, .slice none 0 0] (by kernel_rfl) rfl) ?_
    intro b15 V10 hge h0 hb
    have C1_9 := Lib.hid (bel_step C1_8.out B8.out)
    have N20_0 : Hid (w.heap.size ≠ b15) := Lib.hid (xp_lt0 (heap_keep Fv0_5.out C1_9.out) hge)
    have C4_9 := Lib.hid (bel_step C4_8.out B8.out)
    have N21_1 : Hid (b10 ≠ b15) := Lib.hid (xp_lt0 (heap_keep Fv3_10.out C4_9.out) hge)
    have C6_8 := Lib.hid (bel_step B6.out B7.out)
    have C6_9 := Lib.hid (bel_step C6_8.out B8.out)
    have N22_2 : Hid (b11 ≠ b15) := Lib.hid (xp_lt0 (heap_keep Fv10_11.out C6_9.out) hge)
    have N23_3 : Hid (b13 ≠ b15) := Lib.hid (xp_lt0 (heap_keep Fv17_13.out B8.out) hge)
    have Ge24 : Hid (V9.heap.size ≤ b15) := Lib.hid hge
    have B9 := Lib.hid hb
    have Fv25_15 : Hid (V10.heap[b15]? = some (.cells #[.slice none 0 0, .slice none 0 0] 30 (0, 0))) := Lib.hid (h0)
    have Lt26 : Hid (b15 < V10.heap.size) := Lib.hid (xp_lt Fv25_15.out)
    clear hge h0 hb
    simp only [ptr, Act.put, List.setIfInBounds_toArray, List.set_cons_zero, List.set_cons_succ]
    refine wpList_storeW b15 #[.slice none 0 0, .slice none 0 0] #[.slice Au1 nu cu1, .slice Bu1 nu du1] 30 (by kernel_rfl) Fv25_15.out (xo_storeW b15 #[.slice none 0 0, .slice none 0 0] #[.slice Au1 nu cu1, .slice Bu1 nu du1] Fv25_15.out (by kernel_rfl) rfl (by simp [Value.oneCell']) rfl rfl rfl) ?_
    intro X10_27 h1 hfar hbel hsz
    have hbr := hbel _ _ Ge24.out B9.out
    clear B9
    have B9 := Lib.hid hbr
    clear hbr
    clear Fv25_15
    have Fv25_15 : Hid (X10_27.heap[b15]? = some (.cells #[.slice Au1 nu cu1, .slice Bu1 nu du1] 30 (0, 0))) := Lib.hid (h1)
    have HszX10_27 := Lib.hid hsz
    clear h1 hfar hbel hsz
    simp only [ptr, Act.put, List.setIfInBounds_toArray, List.set_cons_zero, List.set_cons_succ]
    refine wpList_run (by kernel_rfl) (.int .i64 (ku : Int)) X10_27 rfl ?_
    simp only [Act.put, List.setIfInBounds_toArray, List.set_cons_zero, List.set_cons_succ]
    refine wpList_nil ?_
    go_upto_region 8 with fail
    refine wp_region_lit ?_
    have C4_10 := Lib.hid (bel_step C4_9.out B9.out)
    refine wpList_run (by kernel_rfl) (.agg #[.slice A2 m c2, .slice E2 m d2]) X10_27 (xo_loadW b10 _ (heap_keep Fv3_10.out C4_10.out) Tryd.underlying30 rfl (by kernel_rfl) rfl rfl) ?_
    simp only [Act.put, List.setIfInBounds_toArray, List.set_cons_zero, List.set_cons_succ]
    refine wpList_run (by kernel_rfl) (.pointer (some ⟨w.heap.size, 1, none⟩)) X10_27 (xo_fld0 1 w.heap.size 1 (by kernel_rfl) rfl rfl) ?_
    simp only [Act.put, List.setIfInBounds_toArray, List.set_cons_zero, List.set_cons_succ]
    have C1_10 := Lib.hid (bel_step C1_9.out B9.out)
    refine wpList_run (by kernel_rfl) (.int .i64 r.when_) X10_27 (xo_load1 ⟨w.heap.size, 1, none⟩ _ (cells_at (heap_keep Fv0_5.out C1_10.out) 1 rfl) Tryd.underlying3 rfl rfl rfl) ?_
    simp only [Act.put, List.setIfInBounds_toArray, List.set_cons_zero, List.set_cons_succ]
    have C3_9 := Lib.hid (bel_step C3_8.out B8.out)
    have C3_10 := Lib.hid (bel_step C3_9.out B9.out)
    refine wpList_call (by kernel_rfl) 15 Tryd.func15 (by kernel_rfl) (by kernel_rfl) _ _ #[.agg #[.slice A2 m c2, .slice E2 m d2], .int .i64 r.when_] rfl (by kernel_rfl) ?_
    refine (rretract_all A2 m c2 rs E2 d2 gs r.when_ (by omega) ru gu ku HUA.out nu HNU.out X10_27 (HL.out.keep C3_10.out) (HG.out.keep C3_10.out)).mono ?_
    rintro e V11 ⟨Au2, cu2, Bu2, du2, rfl, hs1, hs2, hb⟩
    have B10 := Lib.hid hb
    have HLu2 := Lib.hid hs1
    have HGu2 := Lib.hid hs2
    clear hb hs1 hs2
    refine ⟨_, rfl, ?_⟩
    simp only [Act.put, List.setIfInBounds_toArray, List.set_cons_zero, List.set_cons_succ]
    refine wpList_run (by kernel_rfl) (.tuple #[.agg #[.slice Au2 nu cu2, .slice Bu2 nu du2], .int .i64 (ku : Int)]) V11 rfl ?_
    simp only [Act.put, List.setIfInBounds_toArray, List.set_cons_zero, List.set_cons_succ]
    refine wpList_run (by kernel_rfl) (.agg #[.slice Au2 nu cu2, .slice Bu2 nu du2]) V11 rfl ?_
    simp only [Act.put, List.setIfInBounds_toArray, List.set_cons_zero, List.set_cons_succ]
    refine wpList_run (by kernel_rfl) (.int .i64 (ku : Int)) V11 rfl ?_
    simp only [Act.put, List.setIfInBounds_toArray, List.set_cons_zero, List.set_cons_succ]
    refine wpList_new #[.slice none 0 0, .slice none 0 0] 30 (by kernel_rfl) (xo_alloc #[.slice none 0 0, .slice none 0 0] (by kernel_rfl) rfl) ?_
    intro b17 V12 hge h0 hb
    have C1_11 := Lib.hid (bel_step C1_10.out B10.out)
    have N28_0 : Hid (w.heap.size ≠ b17) := Lib.hid (xp_lt0 (heap_keep Fv0_5.out C1_11.out) hge)
    have C4_11 := Lib.hid (bel_step C4_10.out B10.out)
    have N29_1 : Hid (b10 ≠ b17) := Lib.hid (xp_lt0 (heap_keep Fv3_10.out C4_11.out) hge)
    have C6_10 := Lib.hid (bel_step C6_9.out B9.out)
    have C6_11 := Lib.hid (bel_step C6_10.out B10.out)
    have N30_2 : Hid (b11 ≠ b17) := Lib.hid (xp_lt0 (heap_keep Fv10_11.out C6_11.out) hge)
    have C8_10 := Lib.hid (bel_step B8.out B9.out)
    have C8_11 := Lib.hid (bel_step C8_10.out B10.out)
    have N31_3 : Hid (b13 ≠ b17) := Lib.hid (xp_lt0 (heap_keep Fv17_13.out C8_11.out) hge)
    have N32_4 : Hid (b15 ≠ b17) := Lib.hid (xp_lt0 (heap_keep Fv25_15.out B10.out) hge)
    have Ge33 : Hid (V11.heap.size ≤ b17) := Lib.hid hge
    have B11 := Lib.hid hb
    have Fv34_17 : Hid (V12.heap[b17]? = some (.cells #[.slice none 0 0, .slice none 0 0] 30 (0, 0))) := Lib.hid (h0)
    have Lt35 : Hid (b17 < V12.heap.size) := Lib.hid (xp_lt Fv34_17.out)
    clear hge h0 hb
    simp only [ptr, Act.put, List.setIfInBounds_toArray, List.set_cons_zero, List.set_cons_succ]
    refine wpList_storeW b17 #[.slice none 0 0, .slice none 0 0] #[.slice Au2 nu cu2, .slice Bu2 nu du2] 30 (by kernel_rfl) Fv34_17.out (xo_storeW b17 #[.slice none 0 0, .slice none 0 0] #[.slice Au2 nu cu2, .slice Bu2 nu du2] Fv34_17.out (by kernel_rfl) rfl (by simp [Value.oneCell']) rfl rfl rfl) ?_
    intro X12_36 h1 hfar hbel hsz
    have hbr := hbel _ _ Ge33.out B11.out
    clear B11
    have B11 := Lib.hid hbr
    clear hbr
    clear Fv34_17
    have Fv34_17 : Hid (X12_36.heap[b17]? = some (.cells #[.slice Au2 nu cu2, .slice Bu2 nu du2] 30 (0, 0))) := Lib.hid (h1)
    have HszX12_36 := Lib.hid hsz
    clear h1 hfar hbel hsz
    simp only [ptr, Act.put, List.setIfInBounds_toArray, List.set_cons_zero, List.set_cons_succ]
    refine wpList_run (by kernel_rfl) (.int .i64 (ku : Int)) X12_36 rfl ?_
    simp only [Act.put, List.setIfInBounds_toArray, List.set_cons_zero, List.set_cons_succ]
    refine wpList_nil ?_
    go_upto_region 9 with fail
    try simp only [List.append_eq, List.cons_append, List.nil_append]
    refine wp_ordX (.q 0 (.q 1 (.one 2 (.q 3 (.q 4 (.q 5 (.q 6 (.q 7 (.q 8 (.q 9 (.q 10 (.q 11 (.one 12 (.q 13 (.q 14 (.q 15 (.q 16 (.q 17 (.q 18 (.q 19 (.q 20 (.q 21 (.q 23 (.one 22 (.one 24 (.q 25 (.q 26 .nil))))))))))))))))))))))))))) (by kernel_rfl) (by kernel_rfl) (fun _ _ dt _ _ h => by first | exact h.elim | (cases dt <;> exact h)) (by kernel_rfl) (by kernel_rfl) (fun V13 hb => ?_)
    have B12 := Lib.hid hb
    clear hb
    have C6_12 := Lib.hid (bel_step C6_11.out B11.out)
    have C6_13 := Lib.hid (bel_step C6_12.out B12.out)
    refine wpX_q (.agg #[.slice At1 nt ct1, .slice Bt1 nt dt1]) rfl (by kernel_rfl) (fun v hW => (xo_loadW b11 _ (heap_keep (heap_keep Fv10_11.out C6_13.out) hW) Tryd.underlying30 rfl (by kernel_rfl) rfl rfl)) ?_
    simp only [ptr, Act.put, List.setIfInBounds_toArray, List.set_cons_zero, List.set_cons_succ]
    have C8_12 := Lib.hid (bel_step C8_11.out B11.out)
    have C8_13 := Lib.hid (bel_step C8_12.out B12.out)
    refine wpX_q (.agg #[.slice At2 nt ct2, .slice Bt2 nt dt2]) rfl (by kernel_rfl) (fun v hW => (xo_loadW b13 _ (heap_keep (heap_keep Fv17_13.out C8_13.out) hW) Tryd.underlying30 rfl (by kernel_rfl) rfl rfl)) ?_
    simp only [ptr, Act.put, List.setIfInBounds_toArray, List.set_cons_zero, List.set_cons_succ]
    refine wpX_one rfl (by kernel_rfl) ?_
    have C5_7 := Lib.hid (bel_step B5.out B6.out)
    have C5_8 := Lib.hid (bel_step C5_7.out B7.out)
    have C5_9 := Lib.hid (bel_step C5_8.out B8.out)
    have C5_10 := Lib.hid (bel_step C5_9.out B9.out)
    have C5_11 := Lib.hid (bel_step C5_10.out B10.out)
    have C5_12 := Lib.hid (bel_step C5_11.out B11.out)
    have C5_13 := Lib.hid (bel_step C5_12.out B12.out)
    have C7_9 := Lib.hid (bel_step B7.out B8.out)
    have C7_10 := Lib.hid (bel_step C7_9.out B9.out)
    have C7_11 := Lib.hid (bel_step C7_10.out B10.out)
    have C7_12 := Lib.hid (bel_step C7_11.out B11.out)
    have C7_13 := Lib.hid (bel_step C7_12.out B12.out)
    refine hOp_call 16 Tryd.func16 (by kernel_rfl) (by kernel_rfl) _ _ #[.agg #[.slice At1 nt ct1, .slice Bt1 nt dt1], .agg #[.slice At2 nt ct2, .slice Bt2 nt dt2]] rfl (by kernel_rfl) ?_
    refine (same_yes At1 nt ct1 rt Bt1 nt dt1 gt At2 ct2 Bt2 dt2 V13 (HLt1.out.keep C5_13.out) (HGt1.out.keep C5_13.out) (HLt2.out.keep C7_13.out) (HGt2.out.keep C7_13.out)).mono ?_
    rintro e V14 ⟨rfl, hb⟩
    have B13 := Lib.hid hb
    clear hb 
    refine ⟨_, rfl, B13.out, ?_⟩
    simp only [ptr, Act.put, List.setIfInBounds_toArray, List.set_cons_zero, List.set_cons_succ]
    refine wpX_q (.bool false) rfl (by kernel_rfl) (fun v hW => rfl) ?_
    simp only [ptr, Act.put, List.setIfInBounds_toArray, List.set_cons_zero, List.set_cons_succ]
    refine wpX_q (.bool false) rfl (by kernel_rfl) (fun v hW => rfl) ?_
    simp only [ptr, Act.put, List.setIfInBounds_toArray, List.set_cons_zero, List.set_cons_succ]
    refine wpX_q (.int .i64 (kt : Int)) rfl (by kernel_rfl) (fun v hW => rfl) ?_
    simp only [ptr, Act.put, List.setIfInBounds_toArray, List.set_cons_zero, List.set_cons_succ]
    refine wpX_q (.int .i64 (kt : Int)) rfl (by kernel_rfl) (fun v hW => rfl) ?_
    simp only [ptr, Act.put, List.setIfInBounds_toArray, List.set_cons_zero, List.set_cons_succ]
    refine wpX_q (.bool false) rfl (by kernel_rfl) (fun v hW => (xo_neqF .i64 (kt : Int) (kt : Int) (by omega) rfl rfl rfl)) ?_
    simp only [ptr, Act.put, List.setIfInBounds_toArray, List.set_cons_zero, List.set_cons_succ]
    refine wpX_q (.bool false) rfl (by kernel_rfl) (fun v hW => rfl) ?_
    simp only [ptr, Act.put, List.setIfInBounds_toArray, List.set_cons_zero, List.set_cons_succ]
    refine wpX_q (.bool false) rfl (by kernel_rfl) (fun v hW => rfl) ?_
    simp only [ptr, Act.put, List.setIfInBounds_toArray, List.set_cons_zero, List.set_cons_succ]
    have C10_12 := Lib.hid (bel_step B10.out B11.out)
    have C10_13 := Lib.hid (bel_step C10_12.out B12.out)
    have C10_14 := Lib.hid (bel_step C10_13.out B13.out)
    refine wpX_q (.agg #[.slice Au1 nu cu1, .slice Bu1 nu du1]) rfl (by kernel_rfl) (fun v hW => (xo_loadW b15 _ (heap_keep (heap_keep Fv25_15.out C10_14.out) hW) Tryd.underlying30 rfl (by kernel_rfl) rfl rfl)) ?_
    simp only [ptr, Act.put, List.setIfInBounds_toArray, List.set_cons_zero, List.set_cons_succ]
    have C12_14 := Lib.hid (bel_step B12.out B13.out)
    refine wpX_q (.agg #[.slice Au2 nu cu2, .slice Bu2 nu du2]) rfl (by kernel_rfl) (fun v hW => (xo_loadW b17 _ (heap_keep (heap_keep Fv34_17.out C12_14.out) hW) Tryd.underlying30 rfl (by kernel_rfl) rfl rfl)) ?_
    simp only [ptr, Act.put, List.setIfInBounds_toArray, List.set_cons_zero, List.set_cons_succ]
    refine wpX_one rfl (by kernel_rfl) ?_
    have C9_11 := Lib.hid (bel_step B9.out B10.out)
    have C9_12 := Lib.hid (bel_step C9_11.out B11.out)
    have C9_13 := Lib.hid (bel_step C9_12.out B12.out)
    have C9_14 := Lib.hid (bel_step C9_13.out B13.out)
    have C11_13 := Lib.hid (bel_step B11.out B12.out)
    have C11_14 := Lib.hid (bel_step C11_13.out B13.out)
    refine hOp_call 16 Tryd.func16 (by kernel_rfl) (by kernel_rfl) _ _ #[.agg #[.slice Au1 nu cu1, .slice Bu1 nu du1], .agg #[.slice Au2 nu cu2, .slice Bu2 nu du2]] rfl (by kernel_rfl) ?_
    refine (same_yes Au1 nu cu1 ru Bu1 nu du1 gu Au2 cu2 Bu2 du2 V14 (HLu1.out.keep C9_14.out) (HGu1.out.keep C9_14.out) (HLu2.out.keep C11_14.out) (HGu2.out.keep C11_14.out)).mono ?_
    rintro e V15 ⟨rfl, hb⟩
    have B14 := Lib.hid hb
    clear hb 
    refine ⟨_, rfl, B14.out, ?_⟩
    simp only [ptr, Act.put, List.setIfInBounds_toArray, List.set_cons_zero, List.set_cons_succ]
    refine wpX_q (.bool false) rfl (by kernel_rfl) (fun v hW => rfl) ?_
    simp only [ptr, Act.put, List.setIfInBounds_toArray, List.set_cons_zero, List.set_cons_succ]
    refine wpX_q (.bool false) rfl (by kernel_rfl) (fun v hW => rfl) ?_
    simp only [ptr, Act.put, List.setIfInBounds_toArray, List.set_cons_zero, List.set_cons_succ]
    refine wpX_q (.bool false) rfl (by kernel_rfl) (fun v hW => rfl) ?_
    simp only [ptr, Act.put, List.setIfInBounds_toArray, List.set_cons_zero, List.set_cons_succ]
    refine wpX_q (.int .i64 (ku : Int)) rfl (by kernel_rfl) (fun v hW => rfl) ?_
    simp only [ptr, Act.put, List.setIfInBounds_toArray, List.set_cons_zero, List.set_cons_succ]
    refine wpX_q (.int .i64 (ku : Int)) rfl (by kernel_rfl) (fun v hW => rfl) ?_
    simp only [ptr, Act.put, List.setIfInBounds_toArray, List.set_cons_zero, List.set_cons_succ]
    refine wpX_q (.bool false) rfl (by kernel_rfl) (fun v hW => (xo_neqF .i64 (ku : Int) (ku : Int) (by omega) rfl rfl rfl)) ?_
    simp only [ptr, Act.put, List.setIfInBounds_toArray, List.set_cons_zero, List.set_cons_succ]
    refine wpX_q (.bool false) rfl (by kernel_rfl) (fun v hW => rfl) ?_
    simp only [ptr, Act.put, List.setIfInBounds_toArray, List.set_cons_zero, List.set_cons_succ]
    refine wpX_q (.bool false) rfl (by kernel_rfl) (fun v hW => rfl) ?_
    simp only [ptr, Act.put, List.setIfInBounds_toArray, List.set_cons_zero, List.set_cons_succ]
    have C1_12 := Lib.hid (bel_step C1_11.out B11.out)
    have C1_13 := Lib.hid (bel_step C1_12.out B12.out)
    have C1_14 := Lib.hid (bel_step C1_13.out B13.out)
    have C1_15 := Lib.hid (bel_step C1_14.out B14.out)
    refine wpX_q (.agg #[.int .i64 r.who, .int .i64 r.when_, .int .i64 r.kind, .int .i64 r.value]) rfl (by kernel_rfl) (fun v hW => (xo_loadW w.heap.size _ (heap_keep (heap_keep Fv0_5.out C1_15.out) hW) Tryd.underlying24 rfl (by kernel_rfl) rfl rfl)) ?_
    simp only [ptr, Act.put, List.setIfInBounds_toArray, List.set_cons_zero, List.set_cons_succ]
    refine wpX_q (.agg #[.int .i64 r.who, .int .i64 r.when_, .int .i64 r.kind, .int .i64 r.value]) rfl (by kernel_rfl) (fun v hW => (xo_loadW w.heap.size _ (heap_keep (heap_keep Fv0_5.out C1_15.out) hW) Tryd.underlying24 rfl (by kernel_rfl) rfl rfl)) ?_
    simp only [ptr, Act.put, List.setIfInBounds_toArray, List.set_cons_zero, List.set_cons_succ]
    refine wpX_one rfl (by kernel_rfl) ?_
    have C0_5 := Lib.hid (bel_step C0_4.out B4.out)
    have C0_6 := Lib.hid (bel_step C0_5.out B5.out)
    have C0_7 := Lib.hid (bel_step C0_6.out B6.out)
    have C0_8 := Lib.hid (bel_step C0_7.out B7.out)
    have C0_9 := Lib.hid (bel_step C0_8.out B8.out)
    have C0_10 := Lib.hid (bel_step C0_9.out B9.out)
    have C0_11 := Lib.hid (bel_step C0_10.out B10.out)
    have C0_12 := Lib.hid (bel_step C0_11.out B11.out)
    have C0_13 := Lib.hid (bel_step C0_12.out B12.out)
    have C0_14 := Lib.hid (bel_step C0_13.out B13.out)
    have C0_15 := Lib.hid (bel_step C0_14.out B14.out)
    refine hOp_call 17 Tryd.func17 (by kernel_rfl) (by kernel_rfl) _ _ #[.agg #[.int .i64 r.who, .int .i64 r.when_, .int .i64 r.kind, .int .i64 r.value]] rfl (by kernel_rfl) ?_
    refine (valid_as r vb HVB.out V15 (HW.out.keep C0_15.out)).mono ?_
    rintro e V16 ⟨rfl, hb⟩
    have B15 := Lib.hid hb
    clear hb 
    refine ⟨_, rfl, B15.out, ?_⟩
    simp only [ptr, Act.put, List.setIfInBounds_toArray, List.set_cons_zero, List.set_cons_succ]
    refine wpX_one rfl (by kernel_rfl) ?_
    refine hOp_call 18 Tryd.func18 (by kernel_rfl) (by kernel_rfl) _ _ #[.agg #[.int .i64 r.who, .int .i64 r.when_, .int .i64 r.kind, .int .i64 r.value]] rfl (by kernel_rfl) ?_
    refine (rvalid_as r vb HVB.out V16).mono ?_
    rintro e V17 ⟨rfl, hb⟩
    have B16 := Lib.hid hb
    clear hb 
    refine ⟨_, rfl, B16.out, ?_⟩
    simp only [ptr, Act.put, List.setIfInBounds_toArray, List.set_cons_zero, List.set_cons_succ]
    refine wpX_q (.bool false) rfl (by kernel_rfl) (fun v hW => (exec_neBo vb rfl rfl rfl)) ?_
    simp only [ptr, Act.put, List.setIfInBounds_toArray, List.set_cons_zero, List.set_cons_succ]
    refine wpX_q (.bool false) rfl (by kernel_rfl) (fun v hW => rfl) ?_
    simp only [ptr, Act.put, List.setIfInBounds_toArray, List.set_cons_zero, List.set_cons_succ]
    refine wpX_nil ?_
    go_upto_region 11 with fail
    refine wp_region_lit ?_
    refine wpList_run (by kernel_rfl) (.int .i64 z) V17 rfl ?_
    simp only [Act.put, List.setIfInBounds_toArray, List.set_cons_zero, List.set_cons_succ]
    refine wpList_run (by kernel_rfl) (.int .i64 z) V17 rfl ?_
    simp only [Act.put, List.setIfInBounds_toArray, List.set_cons_zero, List.set_cons_succ]
    refine wpList_nil ?_
    by_cases hz6 : z > 6
    · by_cases hz16 : z ≤ 16
      · go_upto_region 12 with fail
        refine wp_region_lit ?_
        refine wpList_run (by kernel_rfl) (.int .i64 z) V17 rfl ?_
        simp only [Act.put, List.setIfInBounds_toArray, List.set_cons_zero, List.set_cons_succ]
        refine wpList_run (by kernel_rfl) (.bool true) V17 (xo_gtrT .i64 z 6 (by omega) rfl rfl rfl) ?_
        simp only [Act.put, List.setIfInBounds_toArray, List.set_cons_zero, List.set_cons_succ]
        refine wpList_run (by kernel_rfl) (.bool true) V17 rfl ?_
        simp only [Act.put, List.setIfInBounds_toArray, List.set_cons_zero, List.set_cons_succ]
        refine wpList_run (by kernel_rfl) (.int .i64 z) V17 rfl ?_
        simp only [Act.put, List.setIfInBounds_toArray, List.set_cons_zero, List.set_cons_succ]
        refine wpList_run (by kernel_rfl) (.bool true) V17 (xo_leqT .i64 z 16 (by omega) rfl rfl rfl) ?_
        simp only [Act.put, List.setIfInBounds_toArray, List.set_cons_zero, List.set_cons_succ]
        refine wpList_run (by kernel_rfl) (.bool true) V17 rfl ?_
        simp only [Act.put, List.setIfInBounds_toArray, List.set_cons_zero, List.set_cons_succ]
        refine wpList_nil ?_
        go_upto_region 13 with fail
        refine wp_region_lit ?_
        refine wpList_run (by kernel_rfl) (.int .i64 6) V17 rfl ?_
        simp only [Act.put, List.setIfInBounds_toArray, List.set_cons_zero, List.set_cons_succ]
        refine wpList_nil ?_
        obtain ⟨⟨xc, kc⟩, hc⟩ : ∃ t, colsA rs gs 6 = t := ⟨_, rfl⟩
        have HCA := Lib.hid hc
        clear hc
        obtain ⟨⟨xb, kb⟩, hb0⟩ : ∃ t, bitsA rs gs 6 = t := ⟨_, rfl⟩
        have HBA := Lib.hid hb0
        clear hb0
        obtain ⟨nc, hnc⟩ : ∃ n, xc.length = n := ⟨_, rfl⟩
        have HNC := Lib.hid hnc
        obtain ⟨nb, hnb⟩ : ∃ n, xb.length = n := ⟨_, rfl⟩
        have HNB := Lib.hid hnb
        clear hnc hnb
        go_upto_region 14 with fail
        refine wp_region_lit ?_
        have C4_12 := Lib.hid (bel_step C4_11.out B11.out)
        have C4_13 := Lib.hid (bel_step C4_12.out B12.out)
        have C4_14 := Lib.hid (bel_step C4_13.out B13.out)
        have C4_15 := Lib.hid (bel_step C4_14.out B14.out)
        have C4_16 := Lib.hid (bel_step C4_15.out B15.out)
        have C4_17 := Lib.hid (bel_step C4_16.out B16.out)
        refine wpList_run (by kernel_rfl) (.agg #[.slice A2 m c2, .slice E2 m d2]) V17 (xo_loadW b10 _ (heap_keep Fv3_10.out C4_17.out) Tryd.underlying30 rfl (by kernel_rfl) rfl rfl) ?_
        simp only [Act.put, List.setIfInBounds_toArray, List.set_cons_zero, List.set_cons_succ]
        refine wpList_run (by kernel_rfl) (.int .i64 6) V17 rfl ?_
        simp only [Act.put, List.setIfInBounds_toArray, List.set_cons_zero, List.set_cons_succ]
        have C3_11 := Lib.hid (bel_step C3_10.out B10.out)
        have C3_12 := Lib.hid (bel_step C3_11.out B11.out)
        have C3_13 := Lib.hid (bel_step C3_12.out B12.out)
        have C3_14 := Lib.hid (bel_step C3_13.out B13.out)
        have C3_15 := Lib.hid (bel_step C3_14.out B14.out)
        have C3_16 := Lib.hid (bel_step C3_15.out B15.out)
        have C3_17 := Lib.hid (bel_step C3_16.out B16.out)
        refine wpList_call (by kernel_rfl) 19 Tryd.func19 (by kernel_rfl) (by kernel_rfl) _ _ #[.agg #[.slice A2 m c2, .slice E2 m d2], .int .i64 6] rfl (by kernel_rfl) ?_
        refine (cols_all A2 m c2 rs E2 d2 gs 6 HST.out.ok xc kc HCA.out nc HNC.out V17 (HL.out.keep C3_17.out) (HG.out.keep C3_17.out)).mono ?_
        rintro e V18 ⟨Ac1, cc1, rfl, ⟨hsc1, hc0⟩, hb⟩
        have B17 := Lib.hid hb
        have HC1 := Lib.hid hc0
        clear hb hc0
        refine ⟨_, rfl, ?_⟩
        simp only [Act.put, List.setIfInBounds_toArray, List.set_cons_zero, List.set_cons_succ]
        refine wpList_run (by kernel_rfl) (.tuple #[.slice Ac1 nc cc1, .int .i64 (kc : Int)]) V18 rfl ?_
        simp only [Act.put, List.setIfInBounds_toArray, List.set_cons_zero, List.set_cons_succ]
        refine wpList_run (by kernel_rfl) (.slice Ac1 nc cc1) V18 rfl ?_
        simp only [Act.put, List.setIfInBounds_toArray, List.set_cons_zero, List.set_cons_succ]
        refine wpList_run (by kernel_rfl) (.int .i64 (kc : Int)) V18 rfl ?_
        simp only [Act.put, List.setIfInBounds_toArray, List.set_cons_zero, List.set_cons_succ]
        refine wpList_run (by kernel_rfl) (.slice Ac1 nc cc1) V18 rfl ?_
        simp only [Act.put, List.setIfInBounds_toArray, List.set_cons_zero, List.set_cons_succ]
        refine wpList_run (by kernel_rfl) (.int .i64 (kc : Int)) V18 rfl ?_
        simp only [Act.put, List.setIfInBounds_toArray, List.set_cons_zero, List.set_cons_succ]
        refine wpList_nil ?_
        go_upto_region 15 with fail
        refine wp_region_lit ?_
        have C4_18 := Lib.hid (bel_step C4_17.out B17.out)
        refine wpList_run (by kernel_rfl) (.agg #[.slice A2 m c2, .slice E2 m d2]) V18 (xo_loadW b10 _ (heap_keep Fv3_10.out C4_18.out) Tryd.underlying30 rfl (by kernel_rfl) rfl rfl) ?_
        simp only [Act.put, List.setIfInBounds_toArray, List.set_cons_zero, List.set_cons_succ]
        refine wpList_run (by kernel_rfl) (.int .i64 6) V18 rfl ?_
        simp only [Act.put, List.setIfInBounds_toArray, List.set_cons_zero, List.set_cons_succ]
        have C3_18 := Lib.hid (bel_step C3_17.out B17.out)
        refine wpList_call (by kernel_rfl) 20 Tryd.func20 (by kernel_rfl) (by kernel_rfl) _ _ #[.agg #[.slice A2 m c2, .slice E2 m d2], .int .i64 6] rfl (by kernel_rfl) ?_
        refine (rcols_all A2 m c2 rs E2 d2 gs 6 HST.out.ok xc kc HCA.out nc HNC.out V18 (HL.out.keep C3_18.out) (HG.out.keep C3_18.out)).mono ?_
        rintro e V19 ⟨Ac2, cc2, rfl, ⟨hsc2, hc0⟩, hb⟩
        have B18 := Lib.hid hb
        have HC2 := Lib.hid hc0
        clear hb hc0
        refine ⟨_, rfl, ?_⟩
        simp only [Act.put, List.setIfInBounds_toArray, List.set_cons_zero, List.set_cons_succ]
        refine wpList_run (by kernel_rfl) (.tuple #[.slice Ac2 nc cc2, .int .i64 (kc : Int)]) V19 rfl ?_
        simp only [Act.put, List.setIfInBounds_toArray, List.set_cons_zero, List.set_cons_succ]
        refine wpList_run (by kernel_rfl) (.slice Ac2 nc cc2) V19 rfl ?_
        simp only [Act.put, List.setIfInBounds_toArray, List.set_cons_zero, List.set_cons_succ]
        refine wpList_run (by kernel_rfl) (.int .i64 (kc : Int)) V19 rfl ?_
        simp only [Act.put, List.setIfInBounds_toArray, List.set_cons_zero, List.set_cons_succ]
        refine wpList_run (by kernel_rfl) (.slice Ac2 nc cc2) V19 rfl ?_
        simp only [Act.put, List.setIfInBounds_toArray, List.set_cons_zero, List.set_cons_succ]
        refine wpList_run (by kernel_rfl) (.int .i64 (kc : Int)) V19 rfl ?_
        simp only [Act.put, List.setIfInBounds_toArray, List.set_cons_zero, List.set_cons_succ]
        refine wpList_nil ?_
        go_upto_region 16 with fail
        refine wp_region_lit ?_
        have C4_19 := Lib.hid (bel_step C4_18.out B18.out)
        refine wpList_run (by kernel_rfl) (.agg #[.slice A2 m c2, .slice E2 m d2]) V19 (xo_loadW b10 _ (heap_keep Fv3_10.out C4_19.out) Tryd.underlying30 rfl (by kernel_rfl) rfl rfl) ?_
        simp only [Act.put, List.setIfInBounds_toArray, List.set_cons_zero, List.set_cons_succ]
        refine wpList_run (by kernel_rfl) (.int .i64 6) V19 rfl ?_
        simp only [Act.put, List.setIfInBounds_toArray, List.set_cons_zero, List.set_cons_succ]
        have C3_19 := Lib.hid (bel_step C3_18.out B18.out)
        have C0_16 := Lib.hid (bel_step C0_15.out B15.out)
        have C0_17 := Lib.hid (bel_step C0_16.out B16.out)
        have C0_18 := Lib.hid (bel_step C0_17.out B17.out)
        have C0_19 := Lib.hid (bel_step C0_18.out B18.out)
        refine wpList_call (by kernel_rfl) 21 Tryd.func21 (by kernel_rfl) (by kernel_rfl) _ _ #[.agg #[.slice A2 m c2, .slice E2 m d2], .int .i64 6] rfl (by kernel_rfl) ?_
        refine (bits_all A2 m c2 rs E2 d2 gs 6 HST.out.ok xb kb HBA.out nb HNB.out V19 (HL.out.keep C3_19.out) (HG.out.keep C3_19.out) (HW.out.keep C0_19.out)).mono ?_
        rintro e V20 ⟨Ab1, cb1, rfl, ⟨hsb1, hc0⟩, hb⟩
        have B19 := Lib.hid hb
        have HBt1 := Lib.hid hc0
        clear hb hc0
        refine ⟨_, rfl, ?_⟩
        simp only [Act.put, List.setIfInBounds_toArray, List.set_cons_zero, List.set_cons_succ]
        refine wpList_run (by kernel_rfl) (.tuple #[.slice Ab1 nb cb1, .int .i64 (kb : Int)]) V20 rfl ?_
        simp only [Act.put, List.setIfInBounds_toArray, List.set_cons_zero, List.set_cons_succ]
        refine wpList_run (by kernel_rfl) (.slice Ab1 nb cb1) V20 rfl ?_
        simp only [Act.put, List.setIfInBounds_toArray, List.set_cons_zero, List.set_cons_succ]
        refine wpList_run (by kernel_rfl) (.int .i64 (kb : Int)) V20 rfl ?_
        simp only [Act.put, List.setIfInBounds_toArray, List.set_cons_zero, List.set_cons_succ]
        refine wpList_run (by kernel_rfl) (.slice Ab1 nb cb1) V20 rfl ?_
        simp only [Act.put, List.setIfInBounds_toArray, List.set_cons_zero, List.set_cons_succ]
        refine wpList_run (by kernel_rfl) (.int .i64 (kb : Int)) V20 rfl ?_
        simp only [Act.put, List.setIfInBounds_toArray, List.set_cons_zero, List.set_cons_succ]
        refine wpList_nil ?_
        go_upto_region 17 with fail
        refine wp_region_lit ?_
        have C4_20 := Lib.hid (bel_step C4_19.out B19.out)
        refine wpList_run (by kernel_rfl) (.agg #[.slice A2 m c2, .slice E2 m d2]) V20 (xo_loadW b10 _ (heap_keep Fv3_10.out C4_20.out) Tryd.underlying30 rfl (by kernel_rfl) rfl rfl) ?_
        simp only [Act.put, List.setIfInBounds_toArray, List.set_cons_zero, List.set_cons_succ]
        refine wpList_run (by kernel_rfl) (.int .i64 6) V20 rfl ?_
        simp only [Act.put, List.setIfInBounds_toArray, List.set_cons_zero, List.set_cons_succ]
        have C3_20 := Lib.hid (bel_step C3_19.out B19.out)
        refine wpList_call (by kernel_rfl) 22 Tryd.func22 (by kernel_rfl) (by kernel_rfl) _ _ #[.agg #[.slice A2 m c2, .slice E2 m d2], .int .i64 6] rfl (by kernel_rfl) ?_
        refine (rbits_all A2 m c2 rs E2 d2 gs 6 HST.out.ok xb kb HBA.out nb HNB.out V20 (HL.out.keep C3_20.out) (HG.out.keep C3_20.out)).mono ?_
        rintro e V21 ⟨Ab2, cb2, rfl, ⟨hsb2, hc0⟩, hb⟩
        have B20 := Lib.hid hb
        have HBt2 := Lib.hid hc0
        clear hb hc0
        refine ⟨_, rfl, ?_⟩
        simp only [Act.put, List.setIfInBounds_toArray, List.set_cons_zero, List.set_cons_succ]
        refine wpList_run (by kernel_rfl) (.tuple #[.slice Ab2 nb cb2, .int .i64 (kb : Int)]) V21 rfl ?_
        simp only [Act.put, List.setIfInBounds_toArray, List.set_cons_zero, List.set_cons_succ]
        refine wpList_run (by kernel_rfl) (.slice Ab2 nb cb2) V21 rfl ?_
        simp only [Act.put, List.setIfInBounds_toArray, List.set_cons_zero, List.set_cons_succ]
        refine wpList_run (by kernel_rfl) (.int .i64 (kb : Int)) V21 rfl ?_
        simp only [Act.put, List.setIfInBounds_toArray, List.set_cons_zero, List.set_cons_succ]
        refine wpList_run (by kernel_rfl) (.slice Ab2 nb cb2) V21 rfl ?_
        simp only [Act.put, List.setIfInBounds_toArray, List.set_cons_zero, List.set_cons_succ]
        refine wpList_run (by kernel_rfl) (.int .i64 (kb : Int)) V21 rfl ?_
        simp only [Act.put, List.setIfInBounds_toArray, List.set_cons_zero, List.set_cons_succ]
        refine wpList_nil ?_
        go_upto_region 18 with fail
        refine wp_region_lit ?_
        refine wpList_run (by kernel_rfl) (.slice Ay ny cy) V21 rfl ?_
        simp only [Act.put, List.setIfInBounds_toArray, List.set_cons_zero, List.set_cons_succ]
        have C0_20 := Lib.hid (bel_step C0_19.out B19.out)
        have C0_21 := Lib.hid (bel_step C0_20.out B20.out)
        refine wpList_call (by kernel_rfl) 23 Tryd.func23 (by kernel_rfl) (by kernel_rfl) _ _ #[.slice Ay ny cy] rfl (by kernel_rfl) ?_
        refine (decode_all Ay ny cy xs HB8.out rd0 kd HDA.out V21 (HY.out.keep C0_21.out)).mono ?_
        rintro e V22 ⟨rfl, hb⟩
        have B21 := Lib.hid hb
        clear hb 
        refine ⟨_, rfl, ?_⟩
        simp only [Act.put, List.setIfInBounds_toArray, List.set_cons_zero, List.set_cons_succ]
        refine wpList_run (by kernel_rfl) (.tuple #[.agg #[.int .i64 rd0.who, .int .i64 rd0.when_, .int .i64 rd0.kind, .int .i64 rd0.value], .int .i64 (kd : Int)]) V22 rfl ?_
        simp only [Act.put, List.setIfInBounds_toArray, List.set_cons_zero, List.set_cons_succ]
        refine wpList_run (by kernel_rfl) (.agg #[.int .i64 rd0.who, .int .i64 rd0.when_, .int .i64 rd0.kind, .int .i64 rd0.value]) V22 rfl ?_
        simp only [Act.put, List.setIfInBounds_toArray, List.set_cons_zero, List.set_cons_succ]
        refine wpList_run (by kernel_rfl) (.int .i64 (kd : Int)) V22 rfl ?_
        simp only [Act.put, List.setIfInBounds_toArray, List.set_cons_zero, List.set_cons_succ]
        refine wpList_new #[.int .i64 0, .int .i64 0, .int .i64 0, .int .i64 0] 24 (by kernel_rfl) (xo_alloc #[.int .i64 0, .int .i64 0, .int .i64 0, .int .i64 0] (by kernel_rfl) rfl) ?_
        intro b28 V23 hge h0 hb
        have C1_16 := Lib.hid (bel_step C1_15.out B15.out)
        have C1_17 := Lib.hid (bel_step C1_16.out B16.out)
        have C1_18 := Lib.hid (bel_step C1_17.out B17.out)
        have C1_19 := Lib.hid (bel_step C1_18.out B18.out)
        have C1_20 := Lib.hid (bel_step C1_19.out B19.out)
        have C1_21 := Lib.hid (bel_step C1_20.out B20.out)
        have C1_22 := Lib.hid (bel_step C1_21.out B21.out)
        have N37_0 : Hid (w.heap.size ≠ b28) := Lib.hid (xp_lt0 (heap_keep Fv0_5.out C1_22.out) hge)
        have C4_21 := Lib.hid (bel_step C4_20.out B20.out)
        have C4_22 := Lib.hid (bel_step C4_21.out B21.out)
        have N38_1 : Hid (b10 ≠ b28) := Lib.hid (xp_lt0 (heap_keep Fv3_10.out C4_22.out) hge)
        have C6_14 := Lib.hid (bel_step C6_13.out B13.out)
        have C6_15 := Lib.hid (bel_step C6_14.out B14.out)
        have C6_16 := Lib.hid (bel_step C6_15.out B15.out)
        have C6_17 := Lib.hid (bel_step C6_16.out B16.out)
        have C6_18 := Lib.hid (bel_step C6_17.out B17.out)
        have C6_19 := Lib.hid (bel_step C6_18.out B18.out)
        have C6_20 := Lib.hid (bel_step C6_19.out B19.out)
        have C6_21 := Lib.hid (bel_step C6_20.out B20.out)
        have C6_22 := Lib.hid (bel_step C6_21.out B21.out)
        have N39_2 : Hid (b11 ≠ b28) := Lib.hid (xp_lt0 (heap_keep Fv10_11.out C6_22.out) hge)
        have C8_14 := Lib.hid (bel_step C8_13.out B13.out)
        have C8_15 := Lib.hid (bel_step C8_14.out B14.out)
        have C8_16 := Lib.hid (bel_step C8_15.out B15.out)
        have C8_17 := Lib.hid (bel_step C8_16.out B16.out)
        have C8_18 := Lib.hid (bel_step C8_17.out B17.out)
        have C8_19 := Lib.hid (bel_step C8_18.out B18.out)
        have C8_20 := Lib.hid (bel_step C8_19.out B19.out)
        have C8_21 := Lib.hid (bel_step C8_20.out B20.out)
        have C8_22 := Lib.hid (bel_step C8_21.out B21.out)
        have N40_3 : Hid (b13 ≠ b28) := Lib.hid (xp_lt0 (heap_keep Fv17_13.out C8_22.out) hge)
        have C10_15 := Lib.hid (bel_step C10_14.out B14.out)
        have C10_16 := Lib.hid (bel_step C10_15.out B15.out)
        have C10_17 := Lib.hid (bel_step C10_16.out B16.out)
        have C10_18 := Lib.hid (bel_step C10_17.out B17.out)
        have C10_19 := Lib.hid (bel_step C10_18.out B18.out)
        have C10_20 := Lib.hid (bel_step C10_19.out B19.out)
        have C10_21 := Lib.hid (bel_step C10_20.out B20.out)
        have C10_22 := Lib.hid (bel_step C10_21.out B21.out)
        have N41_4 : Hid (b15 ≠ b28) := Lib.hid (xp_lt0 (heap_keep Fv25_15.out C10_22.out) hge)
        have C12_15 := Lib.hid (bel_step C12_14.out B14.out)
        have C12_16 := Lib.hid (bel_step C12_15.out B15.out)
        have C12_17 := Lib.hid (bel_step C12_16.out B16.out)
        have C12_18 := Lib.hid (bel_step C12_17.out B17.out)
        have C12_19 := Lib.hid (bel_step C12_18.out B18.out)
        have C12_20 := Lib.hid (bel_step C12_19.out B19.out)
        have C12_21 := Lib.hid (bel_step C12_20.out B20.out)
        have C12_22 := Lib.hid (bel_step C12_21.out B21.out)
        have N42_5 : Hid (b17 ≠ b28) := Lib.hid (xp_lt0 (heap_keep Fv34_17.out C12_22.out) hge)
        have Ge43 : Hid (V22.heap.size ≤ b28) := Lib.hid hge
        have B22 := Lib.hid hb
        have Fv44_28 : Hid (V23.heap[b28]? = some (.cells #[.int .i64 0, .int .i64 0, .int .i64 0, .int .i64 0] 24 (0, 0))) := Lib.hid (h0)
        have Lt45 : Hid (b28 < V23.heap.size) := Lib.hid (xp_lt Fv44_28.out)
        clear hge h0 hb
        simp only [ptr, Act.put, List.setIfInBounds_toArray, List.set_cons_zero, List.set_cons_succ]
        refine wpList_storeW b28 #[.int .i64 0, .int .i64 0, .int .i64 0, .int .i64 0] #[.int .i64 rd0.who, .int .i64 rd0.when_, .int .i64 rd0.kind, .int .i64 rd0.value] 24 (by kernel_rfl) Fv44_28.out (xo_storeW b28 #[.int .i64 0, .int .i64 0, .int .i64 0, .int .i64 0] #[.int .i64 rd0.who, .int .i64 rd0.when_, .int .i64 rd0.kind, .int .i64 rd0.value] Fv44_28.out (by kernel_rfl) rfl (by simp [Value.oneCell']) rfl rfl rfl) ?_
        intro X23_46 h1 hfar hbel hsz
        have hbr := hbel _ _ Ge43.out B22.out
        clear B22
        have B22 := Lib.hid hbr
        clear hbr
        clear Fv44_28
        have Fv44_28 : Hid (X23_46.heap[b28]? = some (.cells #[.int .i64 rd0.who, .int .i64 rd0.when_, .int .i64 rd0.kind, .int .i64 rd0.value] 24 (0, 0))) := Lib.hid (h1)
        have HszX23_46 := Lib.hid hsz
        clear h1 hfar hbel hsz
        simp only [ptr, Act.put, List.setIfInBounds_toArray, List.set_cons_zero, List.set_cons_succ]
        refine wpList_run (by kernel_rfl) (.int .i64 (kd : Int)) X23_46 rfl ?_
        simp only [Act.put, List.setIfInBounds_toArray, List.set_cons_zero, List.set_cons_succ]
        refine wpList_nil ?_
        go_upto_region 19 with fail
        refine wp_region_lit ?_
        refine wpList_run (by kernel_rfl) (.slice Ay ny cy) X23_46 rfl ?_
        simp only [Act.put, List.setIfInBounds_toArray, List.set_cons_zero, List.set_cons_succ]
        have C0_22 := Lib.hid (bel_step C0_21.out B21.out)
        have C0_23 := Lib.hid (bel_step C0_22.out B22.out)
        refine wpList_call (by kernel_rfl) 24 Tryd.func24 (by kernel_rfl) (by kernel_rfl) _ _ #[.slice Ay ny cy] rfl (by kernel_rfl) ?_
        refine (rdecode_all Ay ny cy xs HB8.out rd0 kd HDA.out X23_46 (HY.out.keep C0_23.out)).mono ?_
        rintro e V24 ⟨rfl, hb⟩
        have B23 := Lib.hid hb
        clear hb 
        refine ⟨_, rfl, ?_⟩
        simp only [Act.put, List.setIfInBounds_toArray, List.set_cons_zero, List.set_cons_succ]
        refine wpList_run (by kernel_rfl) (.tuple #[.agg #[.int .i64 rd0.who, .int .i64 rd0.when_, .int .i64 rd0.kind, .int .i64 rd0.value], .int .i64 (kd : Int)]) V24 rfl ?_
        simp only [Act.put, List.setIfInBounds_toArray, List.set_cons_zero, List.set_cons_succ]
        refine wpList_run (by kernel_rfl) (.agg #[.int .i64 rd0.who, .int .i64 rd0.when_, .int .i64 rd0.kind, .int .i64 rd0.value]) V24 rfl ?_
        simp only [Act.put, List.setIfInBounds_toArray, List.set_cons_zero, List.set_cons_succ]
        refine wpList_run (by kernel_rfl) (.int .i64 (kd : Int)) V24 rfl ?_
        simp only [Act.put, List.setIfInBounds_toArray, List.set_cons_zero, List.set_cons_succ]
        refine wpList_new #[.int .i64 0, .int .i64 0, .int .i64 0, .int .i64 0] 24 (by kernel_rfl) (xo_alloc #[.int .i64 0, .int .i64 0, .int .i64 0, .int .i64 0] (by kernel_rfl) rfl) ?_
        intro b30 V25 hge h0 hb
        have C1_23 := Lib.hid (bel_step C1_22.out B22.out)
        have C1_24 := Lib.hid (bel_step C1_23.out B23.out)
        have N47_0 : Hid (w.heap.size ≠ b30) := Lib.hid (xp_lt0 (heap_keep Fv0_5.out C1_24.out) hge)
        have C4_23 := Lib.hid (bel_step C4_22.out B22.out)
        have C4_24 := Lib.hid (bel_step C4_23.out B23.out)
        have N48_1 : Hid (b10 ≠ b30) := Lib.hid (xp_lt0 (heap_keep Fv3_10.out C4_24.out) hge)
        have C6_23 := Lib.hid (bel_step C6_22.out B22.out)
        have C6_24 := Lib.hid (bel_step C6_23.out B23.out)
        have N49_2 : Hid (b11 ≠ b30) := Lib.hid (xp_lt0 (heap_keep Fv10_11.out C6_24.out) hge)
        have C8_23 := Lib.hid (bel_step C8_22.out B22.out)
        have C8_24 := Lib.hid (bel_step C8_23.out B23.out)
        have N50_3 : Hid (b13 ≠ b30) := Lib.hid (xp_lt0 (heap_keep Fv17_13.out C8_24.out) hge)
        have C10_23 := Lib.hid (bel_step C10_22.out B22.out)
        have C10_24 := Lib.hid (bel_step C10_23.out B23.out)
        have N51_4 : Hid (b15 ≠ b30) := Lib.hid (xp_lt0 (heap_keep Fv25_15.out C10_24.out) hge)
        have C12_23 := Lib.hid (bel_step C12_22.out B22.out)
        have C12_24 := Lib.hid (bel_step C12_23.out B23.out)
        have N52_5 : Hid (b17 ≠ b30) := Lib.hid (xp_lt0 (heap_keep Fv34_17.out C12_24.out) hge)
        have N53_6 : Hid (b28 ≠ b30) := Lib.hid (xp_lt0 (heap_keep Fv44_28.out B23.out) hge)
        have Ge54 : Hid (V24.heap.size ≤ b30) := Lib.hid hge
        have B24 := Lib.hid hb
        have Fv55_30 : Hid (V25.heap[b30]? = some (.cells #[.int .i64 0, .int .i64 0, .int .i64 0, .int .i64 0] 24 (0, 0))) := Lib.hid (h0)
        have Lt56 : Hid (b30 < V25.heap.size) := Lib.hid (xp_lt Fv55_30.out)
        clear hge h0 hb
        simp only [ptr, Act.put, List.setIfInBounds_toArray, List.set_cons_zero, List.set_cons_succ]
        refine wpList_storeW b30 #[.int .i64 0, .int .i64 0, .int .i64 0, .int .i64 0] #[.int .i64 rd0.who, .int .i64 rd0.when_, .int .i64 rd0.kind, .int .i64 rd0.value] 24 (by kernel_rfl) Fv55_30.out (xo_storeW b30 #[.int .i64 0, .int .i64 0, .int .i64 0, .int .i64 0] #[.int .i64 rd0.who, .int .i64 rd0.when_, .int .i64 rd0.kind, .int .i64 rd0.value] Fv55_30.out (by kernel_rfl) rfl (by simp [Value.oneCell']) rfl rfl rfl) ?_
        intro X25_57 h1 hfar hbel hsz
        have hbr := hbel _ _ Ge54.out B24.out
        clear B24
        have B24 := Lib.hid hbr
        clear hbr
        clear Fv55_30
        have Fv55_30 : Hid (X25_57.heap[b30]? = some (.cells #[.int .i64 rd0.who, .int .i64 rd0.when_, .int .i64 rd0.kind, .int .i64 rd0.value] 24 (0, 0))) := Lib.hid (h1)
        have HszX25_57 := Lib.hid hsz
        clear h1 hfar hbel hsz
        simp only [ptr, Act.put, List.setIfInBounds_toArray, List.set_cons_zero, List.set_cons_succ]
        refine wpList_run (by kernel_rfl) (.int .i64 (kd : Int)) X25_57 rfl ?_
        simp only [Act.put, List.setIfInBounds_toArray, List.set_cons_zero, List.set_cons_succ]
        refine wpList_nil ?_
        go_upto_region 20 with fail
        refine wp_region_lit ?_
        refine wpList_run (by kernel_rfl) (.pointer (some ⟨w.heap.size, 0, none⟩)) X25_57 (xo_fld0 0 w.heap.size 0 (by kernel_rfl) rfl rfl) ?_
        simp only [Act.put, List.setIfInBounds_toArray, List.set_cons_zero, List.set_cons_succ]
        have C1_25 := Lib.hid (bel_step C1_24.out B24.out)
        refine wpList_run (by kernel_rfl) (.int .i64 r.who) X25_57 (xo_load1 ⟨w.heap.size, 0, none⟩ _ (cells_at (heap_keep Fv0_5.out C1_25.out) 0 rfl) Tryd.underlying3 rfl rfl rfl) ?_
        simp only [Act.put, List.setIfInBounds_toArray, List.set_cons_zero, List.set_cons_succ]
        refine wpList_run (by kernel_rfl) (.int .u8 (x : Int)) X25_57 (xo_cvt .i64 .u8 r.who (x : Int) (by rw [IntKind.wrap_u8]; omega) Tryd.underlying5 Tryd.underlying3 rfl rfl) ?_
        simp only [Act.put, List.setIfInBounds_toArray, List.set_cons_zero, List.set_cons_succ]
        refine wpList_run (by kernel_rfl) (.pointer (some ⟨w.heap.size, 1, none⟩)) X25_57 (xo_fld0 1 w.heap.size 1 (by kernel_rfl) rfl rfl) ?_
        simp only [Act.put, List.setIfInBounds_toArray, List.set_cons_zero, List.set_cons_succ]
        refine wpList_run (by kernel_rfl) (.int .i64 r.when_) X25_57 (xo_load1 ⟨w.heap.size, 1, none⟩ _ (cells_at (heap_keep Fv0_5.out C1_25.out) 1 rfl) Tryd.underlying3 rfl rfl rfl) ?_
        simp only [Act.put, List.setIfInBounds_toArray, List.set_cons_zero, List.set_cons_succ]
        refine wpList_run (by kernel_rfl) (.int .u8 (y : Int)) X25_57 (xo_cvt .i64 .u8 r.when_ (y : Int) (by rw [IntKind.wrap_u8]; omega) Tryd.underlying5 Tryd.underlying3 rfl rfl) ?_
        simp only [Act.put, List.setIfInBounds_toArray, List.set_cons_zero, List.set_cons_succ]
        refine wpList_run (by kernel_rfl) (.pointer (some ⟨w.heap.size, 3, none⟩)) X25_57 (xo_fld0 3 w.heap.size 3 (by kernel_rfl) rfl rfl) ?_
        simp only [Act.put, List.setIfInBounds_toArray, List.set_cons_zero, List.set_cons_succ]
        refine wpList_run (by kernel_rfl) (.int .i64 r.value) X25_57 (xo_load1 ⟨w.heap.size, 3, none⟩ _ (cells_at (heap_keep Fv0_5.out C1_25.out) 3 rfl) Tryd.underlying3 rfl rfl rfl) ?_
        simp only [Act.put, List.setIfInBounds_toArray, List.set_cons_zero, List.set_cons_succ]
        refine wpList_run (by kernel_rfl) (.int .u8 (q : Int)) X25_57 (xo_cvt .i64 .u8 r.value (q : Int) (by rw [IntKind.wrap_u8]; omega) Tryd.underlying5 Tryd.underlying3 rfl rfl) ?_
        simp only [Act.put, List.setIfInBounds_toArray, List.set_cons_zero, List.set_cons_succ]
        refine wpList_run (by kernel_rfl) (.agg #[.int .u8 (x : Int), .int .u8 (y : Int), .int .u8 (q : Int)]) X25_57 (by unfold execOp; go_simp) ?_
        simp only [Act.put, List.setIfInBounds_toArray, List.set_cons_zero, List.set_cons_succ]
        refine wpList_call (by kernel_rfl) 25 Tryd.func25 (by kernel_rfl) (by kernel_rfl) _ _ #[.agg #[.int .u8 (x : Int), .int .u8 (y : Int), .int .u8 (q : Int)]] rfl (by kernel_rfl) ?_
        refine (rreading_any x y q hx8 hy8 hq8 X25_57).mono ?_
        rintro e V26 ⟨rfl, hb⟩
        have B25 := Lib.hid hb
        clear hb 
        refine ⟨_, rfl, ?_⟩
        simp only [Act.put, List.setIfInBounds_toArray, List.set_cons_zero, List.set_cons_succ]
        refine wpList_new #[.int .i64 0, .int .i64 0, .int .i64 0, .int .i64 0] 24 (by kernel_rfl) (xo_alloc #[.int .i64 0, .int .i64 0, .int .i64 0, .int .i64 0] (by kernel_rfl) rfl) ?_
        intro b32 V27 hge h0 hb
        have C1_26 := Lib.hid (bel_step C1_25.out B25.out)
        have N58_0 : Hid (w.heap.size ≠ b32) := Lib.hid (xp_lt0 (heap_keep Fv0_5.out C1_26.out) hge)
        have C4_25 := Lib.hid (bel_step C4_24.out B24.out)
        have C4_26 := Lib.hid (bel_step C4_25.out B25.out)
        have N59_1 : Hid (b10 ≠ b32) := Lib.hid (xp_lt0 (heap_keep Fv3_10.out C4_26.out) hge)
        have C6_25 := Lib.hid (bel_step C6_24.out B24.out)
        have C6_26 := Lib.hid (bel_step C6_25.out B25.out)
        have N60_2 : Hid (b11 ≠ b32) := Lib.hid (xp_lt0 (heap_keep Fv10_11.out C6_26.out) hge)
        have C8_25 := Lib.hid (bel_step C8_24.out B24.out)
        have C8_26 := Lib.hid (bel_step C8_25.out B25.out)
        have N61_3 : Hid (b13 ≠ b32) := Lib.hid (xp_lt0 (heap_keep Fv17_13.out C8_26.out) hge)
        have C10_25 := Lib.hid (bel_step C10_24.out B24.out)
        have C10_26 := Lib.hid (bel_step C10_25.out B25.out)
        have N62_4 : Hid (b15 ≠ b32) := Lib.hid (xp_lt0 (heap_keep Fv25_15.out C10_26.out) hge)
        have C12_25 := Lib.hid (bel_step C12_24.out B24.out)
        have C12_26 := Lib.hid (bel_step C12_25.out B25.out)
        have N63_5 : Hid (b17 ≠ b32) := Lib.hid (xp_lt0 (heap_keep Fv34_17.out C12_26.out) hge)
        have C23_25 := Lib.hid (bel_step B23.out B24.out)
        have C23_26 := Lib.hid (bel_step C23_25.out B25.out)
        have N64_6 : Hid (b28 ≠ b32) := Lib.hid (xp_lt0 (heap_keep Fv44_28.out C23_26.out) hge)
        have N65_7 : Hid (b30 ≠ b32) := Lib.hid (xp_lt0 (heap_keep Fv55_30.out B25.out) hge)
        have Ge66 : Hid (V26.heap.size ≤ b32) := Lib.hid hge
        have B26 := Lib.hid hb
        have Fv67_32 : Hid (V27.heap[b32]? = some (.cells #[.int .i64 0, .int .i64 0, .int .i64 0, .int .i64 0] 24 (0, 0))) := Lib.hid (h0)
        have Lt68 : Hid (b32 < V27.heap.size) := Lib.hid (xp_lt Fv67_32.out)
        clear hge h0 hb
        simp only [ptr, Act.put, List.setIfInBounds_toArray, List.set_cons_zero, List.set_cons_succ]
        refine wpList_storeW b32 #[.int .i64 0, .int .i64 0, .int .i64 0, .int .i64 0] #[.int .i64 ((decR x y q).who), .int .i64 ((decR x y q).when_), .int .i64 ((decR x y q).kind), .int .i64 ((decR x y q).value)] 24 (by kernel_rfl) Fv67_32.out (xo_storeW b32 #[.int .i64 0, .int .i64 0, .int .i64 0, .int .i64 0] #[.int .i64 ((decR x y q).who), .int .i64 ((decR x y q).when_), .int .i64 ((decR x y q).kind), .int .i64 ((decR x y q).value)] Fv67_32.out (by kernel_rfl) rfl (by simp [Value.oneCell']) rfl rfl rfl) ?_
        intro X27_69 h1 hfar hbel hsz
        have hbr := hbel _ _ Ge66.out B26.out
        clear B26
        have B26 := Lib.hid hbr
        clear hbr
        clear Fv67_32
        have Fv67_32 : Hid (X27_69.heap[b32]? = some (.cells #[.int .i64 ((decR x y q).who), .int .i64 ((decR x y q).when_), .int .i64 ((decR x y q).kind), .int .i64 ((decR x y q).value)] 24 (0, 0))) := Lib.hid (h1)
        have HszX27_69 := Lib.hid hsz
        clear h1 hfar hbel hsz
        simp only [ptr, Act.put, List.setIfInBounds_toArray, List.set_cons_zero, List.set_cons_succ]
        refine wpList_nil ?_
        go_upto_region 21 with fail
        try simp only [List.append_eq, List.cons_append, List.nil_append]
        refine wp_ordX (.q 0 (.q 1 (.q 2 (.q 3 (.one 4 (.q 5 (.q 6 (.q 7 (.q 8 (.q 9 (.q 10 (.q 11 (.q 12 (.q 13 (.one 14 (.q 15 (.q 16 (.q 17 (.q 18 (.q 19 (.q 20 (.q 21 (.q 22 (.q 23 (.q 24 (.q 25 (.q 26 (.q 27 (.q 28 (.q 29 (.q 30 (.q 31 (.q 32 (.q 35 (.one 33 (.q 34 (.one 36 (.q 37 (.q 38 (.q 39 (.q 40 .nil))))))))))))))))))))))))))))))))))))))))) (by kernel_rfl) (by kernel_rfl) (fun _ _ dt _ _ h => by first | exact h.elim | (cases dt <;> exact h)) (by kernel_rfl) (by kernel_rfl) (fun V28 hb => ?_)
        have B27 := Lib.hid hb
        clear hb
        refine wpX_q (.bool true) rfl (by kernel_rfl) (fun v hW => rfl) ?_
        simp only [ptr, Act.put, List.setIfInBounds_toArray, List.set_cons_zero, List.set_cons_succ]
        refine wpX_q (.bool true) rfl (by kernel_rfl) (fun v hW => rfl) ?_
        simp only [ptr, Act.put, List.setIfInBounds_toArray, List.set_cons_zero, List.set_cons_succ]
        refine wpX_q (.slice Ac1 nc cc1) rfl (by kernel_rfl) (fun v hW => rfl) ?_
        simp only [ptr, Act.put, List.setIfInBounds_toArray, List.set_cons_zero, List.set_cons_succ]
        refine wpX_q (.slice Ac2 nc cc2) rfl (by kernel_rfl) (fun v hW => rfl) ?_
        simp only [ptr, Act.put, List.setIfInBounds_toArray, List.set_cons_zero, List.set_cons_succ]
        refine wpX_one rfl (by kernel_rfl) ?_
        have C18_20 := Lib.hid (bel_step B18.out B19.out)
        have C18_21 := Lib.hid (bel_step C18_20.out B20.out)
        have C18_22 := Lib.hid (bel_step C18_21.out B21.out)
        have C18_23 := Lib.hid (bel_step C18_22.out B22.out)
        have C18_24 := Lib.hid (bel_step C18_23.out B23.out)
        have C18_25 := Lib.hid (bel_step C18_24.out B24.out)
        have C18_26 := Lib.hid (bel_step C18_25.out B25.out)
        have C18_27 := Lib.hid (bel_step C18_26.out B26.out)
        have C18_28 := Lib.hid (bel_step C18_27.out B27.out)
        have C19_21 := Lib.hid (bel_step B19.out B20.out)
        have C19_22 := Lib.hid (bel_step C19_21.out B21.out)
        have C19_23 := Lib.hid (bel_step C19_22.out B22.out)
        have C19_24 := Lib.hid (bel_step C19_23.out B23.out)
        have C19_25 := Lib.hid (bel_step C19_24.out B24.out)
        have C19_26 := Lib.hid (bel_step C19_25.out B25.out)
        have C19_27 := Lib.hid (bel_step C19_26.out B26.out)
        have C19_28 := Lib.hid (bel_step C19_27.out B27.out)
        refine hOp_call 26 Tryd.func26 (by kernel_rfl) (by kernel_rfl) _ _ #[.slice Ac1 nc cc1, .slice Ac2 nc cc2] rfl (by kernel_rfl) ?_
        refine (sameCols_yes Ac1 nc cc1 hsc1 Ac2 cc2 hsc2 xc V28 (HC1.out.keep C18_28.out) (HC2.out.keep C19_28.out)).mono ?_
        rintro e V29 ⟨rfl, hb⟩
        have B28 := Lib.hid hb
        clear hb 
        refine ⟨_, rfl, B28.out, ?_⟩
        simp only [ptr, Act.put, List.setIfInBounds_toArray, List.set_cons_zero, List.set_cons_succ]
        refine wpX_q (.bool true) rfl (by kernel_rfl) (fun v hW => rfl) ?_
        simp only [ptr, Act.put, List.setIfInBounds_toArray, List.set_cons_zero, List.set_cons_succ]
        refine wpX_q (.bool true) rfl (by kernel_rfl) (fun v hW => rfl) ?_
        simp only [ptr, Act.put, List.setIfInBounds_toArray, List.set_cons_zero, List.set_cons_succ]
        refine wpX_q (.int .i64 (kc : Int)) rfl (by kernel_rfl) (fun v hW => rfl) ?_
        simp only [ptr, Act.put, List.setIfInBounds_toArray, List.set_cons_zero, List.set_cons_succ]
        refine wpX_q (.int .i64 (kc : Int)) rfl (by kernel_rfl) (fun v hW => rfl) ?_
        simp only [ptr, Act.put, List.setIfInBounds_toArray, List.set_cons_zero, List.set_cons_succ]
        refine wpX_q (.bool true) rfl (by kernel_rfl) (fun v hW => (xo_eqlT .i64 (kc : Int) (kc : Int) (by omega) rfl rfl rfl)) ?_
        simp only [ptr, Act.put, List.setIfInBounds_toArray, List.set_cons_zero, List.set_cons_succ]
        refine wpX_q (.bool true) rfl (by kernel_rfl) (fun v hW => rfl) ?_
        simp only [ptr, Act.put, List.setIfInBounds_toArray, List.set_cons_zero, List.set_cons_succ]
        refine wpX_q (.bool true) rfl (by kernel_rfl) (fun v hW => rfl) ?_
        simp only [ptr, Act.put, List.setIfInBounds_toArray, List.set_cons_zero, List.set_cons_succ]
        refine wpX_q (.slice Ab1 nb cb1) rfl (by kernel_rfl) (fun v hW => rfl) ?_
        simp only [ptr, Act.put, List.setIfInBounds_toArray, List.set_cons_zero, List.set_cons_succ]
        refine wpX_q (.slice Ab2 nb cb2) rfl (by kernel_rfl) (fun v hW => rfl) ?_
        simp only [ptr, Act.put, List.setIfInBounds_toArray, List.set_cons_zero, List.set_cons_succ]
        refine wpX_one rfl (by kernel_rfl) ?_
        have C20_22 := Lib.hid (bel_step B20.out B21.out)
        have C20_23 := Lib.hid (bel_step C20_22.out B22.out)
        have C20_24 := Lib.hid (bel_step C20_23.out B23.out)
        have C20_25 := Lib.hid (bel_step C20_24.out B24.out)
        have C20_26 := Lib.hid (bel_step C20_25.out B25.out)
        have C20_27 := Lib.hid (bel_step C20_26.out B26.out)
        have C20_28 := Lib.hid (bel_step C20_27.out B27.out)
        have C20_29 := Lib.hid (bel_step C20_28.out B28.out)
        have C21_23 := Lib.hid (bel_step B21.out B22.out)
        have C21_24 := Lib.hid (bel_step C21_23.out B23.out)
        have C21_25 := Lib.hid (bel_step C21_24.out B24.out)
        have C21_26 := Lib.hid (bel_step C21_25.out B25.out)
        have C21_27 := Lib.hid (bel_step C21_26.out B26.out)
        have C21_28 := Lib.hid (bel_step C21_27.out B27.out)
        have C21_29 := Lib.hid (bel_step C21_28.out B28.out)
        refine hOp_call 26 Tryd.func26 (by kernel_rfl) (by kernel_rfl) _ _ #[.slice Ab1 nb cb1, .slice Ab2 nb cb2] rfl (by kernel_rfl) ?_
        refine (sameCols_yes Ab1 nb cb1 hsb1 Ab2 cb2 hsb2 xb V29 (HBt1.out.keep C20_29.out) (HBt2.out.keep C21_29.out)).mono ?_
        rintro e V30 ⟨rfl, hb⟩
        have B29 := Lib.hid hb
        clear hb 
        refine ⟨_, rfl, B29.out, ?_⟩
        simp only [ptr, Act.put, List.setIfInBounds_toArray, List.set_cons_zero, List.set_cons_succ]
        refine wpX_q (.bool true) rfl (by kernel_rfl) (fun v hW => rfl) ?_
        simp only [ptr, Act.put, List.setIfInBounds_toArray, List.set_cons_zero, List.set_cons_succ]
        refine wpX_q (.bool true) rfl (by kernel_rfl) (fun v hW => rfl) ?_
        simp only [ptr, Act.put, List.setIfInBounds_toArray, List.set_cons_zero, List.set_cons_succ]
        refine wpX_q (.int .i64 (kb : Int)) rfl (by kernel_rfl) (fun v hW => rfl) ?_
        simp only [ptr, Act.put, List.setIfInBounds_toArray, List.set_cons_zero, List.set_cons_succ]
        refine wpX_q (.int .i64 (kb : Int)) rfl (by kernel_rfl) (fun v hW => rfl) ?_
        simp only [ptr, Act.put, List.setIfInBounds_toArray, List.set_cons_zero, List.set_cons_succ]
        refine wpX_q (.bool true) rfl (by kernel_rfl) (fun v hW => (xo_eqlT .i64 (kb : Int) (kb : Int) (by omega) rfl rfl rfl)) ?_
        simp only [ptr, Act.put, List.setIfInBounds_toArray, List.set_cons_zero, List.set_cons_succ]
        refine wpX_q (.bool true) rfl (by kernel_rfl) (fun v hW => rfl) ?_
        simp only [ptr, Act.put, List.setIfInBounds_toArray, List.set_cons_zero, List.set_cons_succ]
        refine wpX_q (.bool true) rfl (by kernel_rfl) (fun v hW => rfl) ?_
        simp only [ptr, Act.put, List.setIfInBounds_toArray, List.set_cons_zero, List.set_cons_succ]
        have C23_27 := Lib.hid (bel_step C23_26.out B26.out)
        have C23_28 := Lib.hid (bel_step C23_27.out B27.out)
        have C23_29 := Lib.hid (bel_step C23_28.out B28.out)
        have C23_30 := Lib.hid (bel_step C23_29.out B29.out)
        refine wpX_q (.agg #[.int .i64 rd0.who, .int .i64 rd0.when_, .int .i64 rd0.kind, .int .i64 rd0.value]) rfl (by kernel_rfl) (fun v hW => (xo_loadW b28 _ (heap_keep (heap_keep Fv44_28.out C23_30.out) hW) Tryd.underlying24 rfl (by kernel_rfl) rfl rfl)) ?_
        simp only [ptr, Act.put, List.setIfInBounds_toArray, List.set_cons_zero, List.set_cons_succ]
        have C25_27 := Lib.hid (bel_step B25.out B26.out)
        have C25_28 := Lib.hid (bel_step C25_27.out B27.out)
        have C25_29 := Lib.hid (bel_step C25_28.out B28.out)
        have C25_30 := Lib.hid (bel_step C25_29.out B29.out)
        refine wpX_q (.agg #[.int .i64 rd0.who, .int .i64 rd0.when_, .int .i64 rd0.kind, .int .i64 rd0.value]) rfl (by kernel_rfl) (fun v hW => (xo_loadW b30 _ (heap_keep (heap_keep Fv55_30.out C25_30.out) hW) Tryd.underlying24 rfl (by kernel_rfl) rfl rfl)) ?_
        simp only [ptr, Act.put, List.setIfInBounds_toArray, List.set_cons_zero, List.set_cons_succ]
        refine wpX_q (.bool true) rfl (by kernel_rfl) (fun v hW => (exec_eqRd (Rd.mk rd0.who rd0.when_ rd0.kind rd0.value) rfl rfl rfl)) ?_
        simp only [ptr, Act.put, List.setIfInBounds_toArray, List.set_cons_zero, List.set_cons_succ]
        refine wpX_q (.bool true) rfl (by kernel_rfl) (fun v hW => rfl) ?_
        simp only [ptr, Act.put, List.setIfInBounds_toArray, List.set_cons_zero, List.set_cons_succ]
        refine wpX_q (.bool true) rfl (by kernel_rfl) (fun v hW => rfl) ?_
        simp only [ptr, Act.put, List.setIfInBounds_toArray, List.set_cons_zero, List.set_cons_succ]
        refine wpX_q (.int .i64 (kd : Int)) rfl (by kernel_rfl) (fun v hW => rfl) ?_
        simp only [ptr, Act.put, List.setIfInBounds_toArray, List.set_cons_zero, List.set_cons_succ]
        refine wpX_q (.int .i64 (kd : Int)) rfl (by kernel_rfl) (fun v hW => rfl) ?_
        simp only [ptr, Act.put, List.setIfInBounds_toArray, List.set_cons_zero, List.set_cons_succ]
        refine wpX_q (.bool true) rfl (by kernel_rfl) (fun v hW => (xo_eqlT .i64 (kd : Int) (kd : Int) (by omega) rfl rfl rfl)) ?_
        simp only [ptr, Act.put, List.setIfInBounds_toArray, List.set_cons_zero, List.set_cons_succ]
        refine wpX_q (.bool true) rfl (by kernel_rfl) (fun v hW => rfl) ?_
        simp only [ptr, Act.put, List.setIfInBounds_toArray, List.set_cons_zero, List.set_cons_succ]
        refine wpX_q (.bool true) rfl (by kernel_rfl) (fun v hW => rfl) ?_
        simp only [ptr, Act.put, List.setIfInBounds_toArray, List.set_cons_zero, List.set_cons_succ]
        have C27_29 := Lib.hid (bel_step B27.out B28.out)
        have C27_30 := Lib.hid (bel_step C27_29.out B29.out)
        refine wpX_q (.agg #[.int .i64 ((decR x y q).who), .int .i64 ((decR x y q).when_), .int .i64 ((decR x y q).kind), .int .i64 ((decR x y q).value)]) rfl (by kernel_rfl) (fun v hW => (xo_loadW b32 _ (heap_keep (heap_keep Fv67_32.out C27_30.out) hW) Tryd.underlying24 rfl (by kernel_rfl) rfl rfl)) ?_
        simp only [ptr, Act.put, List.setIfInBounds_toArray, List.set_cons_zero, List.set_cons_succ]
        refine wpX_q (.agg #[.int .i64 ((decR x y q).who), .int .i64 ((decR x y q).when_), .int .i64 ((decR x y q).kind), .int .i64 ((decR x y q).value)]) rfl (by kernel_rfl) (fun v hW => (xo_loadW b32 _ (heap_keep (heap_keep Fv67_32.out C27_30.out) hW) Tryd.underlying24 rfl (by kernel_rfl) rfl rfl)) ?_
        simp only [ptr, Act.put, List.setIfInBounds_toArray, List.set_cons_zero, List.set_cons_succ]
        refine wpX_one rfl (by kernel_rfl) ?_
        refine hOp_call 27 Tryd.func27 (by kernel_rfl) (by kernel_rfl) _ _ #[.agg #[.int .i64 ((decR x y q).who), .int .i64 ((decR x y q).when_), .int .i64 ((decR x y q).kind), .int .i64 ((decR x y q).value)]] rfl (by kernel_rfl) ?_
        refine (encode_any (x % 16) y (x / 16) q (by omega) hy8 (by omega) hq8 V30).mono ?_
        rintro e V31 ⟨Ae1, ce1, rfl, hs, hb⟩
        have B30 := Lib.hid hb
        have HEn1 := Lib.hid hs
        clear hb hs
        refine ⟨_, rfl, B30.out, ?_⟩
        simp only [ptr, Act.put, List.setIfInBounds_toArray, List.set_cons_zero, List.set_cons_succ]
        refine wpX_q (.string (strB ([x % 16 + x / 16 * 16, y, q]))) rfl (by kernel_rfl) (fun v hW => (xg_str (xs := [x % 16 + x / 16 * 16, y, q]) (HEn1.out.keep hW) (by decide) Tryd.underlying25 Tryd.underlying5 Tryd.underlying9 rfl rfl)) ?_
        simp only [ptr, Act.put, List.setIfInBounds_toArray, List.set_cons_zero, List.set_cons_succ]
        refine wpX_one rfl (by kernel_rfl) ?_
        refine hOp_call 28 Tryd.func28 (by kernel_rfl) (by kernel_rfl) _ _ #[.agg #[.int .i64 ((decR x y q).who), .int .i64 ((decR x y q).when_), .int .i64 ((decR x y q).kind), .int .i64 ((decR x y q).value)]] rfl (by kernel_rfl) ?_
        refine (rencode_any (x % 16) y (x / 16) q (by omega) hy8 (by omega) hq8 V31).mono ?_
        rintro e V32 ⟨Ae2, ce2, rfl, hs, hb⟩
        have B31 := Lib.hid hb
        have HEn2 := Lib.hid hs
        clear hb hs
        refine ⟨_, rfl, B31.out, ?_⟩
        simp only [ptr, Act.put, List.setIfInBounds_toArray, List.set_cons_zero, List.set_cons_succ]
        refine wpX_q (.string (strB ([x % 16 + x / 16 * 16, y, q]))) rfl (by kernel_rfl) (fun v hW => (xg_str (xs := [x % 16 + x / 16 * 16, y, q]) (HEn2.out.keep hW) (by decide) Tryd.underlying25 Tryd.underlying5 Tryd.underlying9 rfl rfl)) ?_
        simp only [ptr, Act.put, List.setIfInBounds_toArray, List.set_cons_zero, List.set_cons_succ]
        refine wpX_q (.bool true) rfl (by kernel_rfl) (fun v hW => (xo_eqS (strB ([x % 16 + x / 16 * 16, y, q])) Tryd.underlying9 rfl rfl rfl)) ?_
        simp only [ptr, Act.put, List.setIfInBounds_toArray, List.set_cons_zero, List.set_cons_succ]
        refine wpX_q (.bool true) rfl (by kernel_rfl) (fun v hW => rfl) ?_
        simp only [ptr, Act.put, List.setIfInBounds_toArray, List.set_cons_zero, List.set_cons_succ]
        refine wpX_q (.bool true) rfl (by kernel_rfl) (fun v hW => rfl) ?_
        simp only [ptr, Act.put, List.setIfInBounds_toArray, List.set_cons_zero, List.set_cons_succ]
        refine wpX_nil ?_
        go_wp2_with fail
        go_ret
        have C0_24 := Lib.hid (bel_step C0_23.out B23.out)
        have C0_25 := Lib.hid (bel_step C0_24.out B24.out)
        have C0_26 := Lib.hid (bel_step C0_25.out B25.out)
        have C0_27 := Lib.hid (bel_step C0_26.out B26.out)
        have C0_28 := Lib.hid (bel_step C0_27.out B27.out)
        have C0_29 := Lib.hid (bel_step C0_28.out B28.out)
        have C0_30 := Lib.hid (bel_step C0_29.out B29.out)
        have C0_31 := Lib.hid (bel_step C0_30.out B30.out)
        have C0_32 := Lib.hid (bel_step C0_31.out B31.out)
        exact ⟨rfl, C0_32.out⟩
      · go_upto_region 12 with fail
        refine wp_region_lit ?_
        refine wpList_run (by kernel_rfl) (.int .i64 z) V17 rfl ?_
        simp only [Act.put, List.setIfInBounds_toArray, List.set_cons_zero, List.set_cons_succ]
        refine wpList_run (by kernel_rfl) (.bool true) V17 (xo_gtrT .i64 z 6 (by omega) rfl rfl rfl) ?_
        simp only [Act.put, List.setIfInBounds_toArray, List.set_cons_zero, List.set_cons_succ]
        refine wpList_run (by kernel_rfl) (.bool true) V17 rfl ?_
        simp only [Act.put, List.setIfInBounds_toArray, List.set_cons_zero, List.set_cons_succ]
        refine wpList_run (by kernel_rfl) (.int .i64 z) V17 rfl ?_
        simp only [Act.put, List.setIfInBounds_toArray, List.set_cons_zero, List.set_cons_succ]
        refine wpList_run (by kernel_rfl) (.bool false) V17 (xo_leqF .i64 z 16 (by omega) rfl rfl rfl) ?_
        simp only [Act.put, List.setIfInBounds_toArray, List.set_cons_zero, List.set_cons_succ]
        refine wpList_run (by kernel_rfl) (.bool false) V17 rfl ?_
        simp only [Act.put, List.setIfInBounds_toArray, List.set_cons_zero, List.set_cons_succ]
        refine wpList_nil ?_
        obtain ⟨⟨xc, kc⟩, hc⟩ : ∃ t, colsA rs gs z = t := ⟨_, rfl⟩
        have HCA := Lib.hid hc
        clear hc
        obtain ⟨⟨xb, kb⟩, hb0⟩ : ∃ t, bitsA rs gs z = t := ⟨_, rfl⟩
        have HBA := Lib.hid hb0
        clear hb0
        obtain ⟨nc, hnc⟩ : ∃ n, xc.length = n := ⟨_, rfl⟩
        have HNC := Lib.hid hnc
        obtain ⟨nb, hnb⟩ : ∃ n, xb.length = n := ⟨_, rfl⟩
        have HNB := Lib.hid hnb
        clear hnc hnb
        go_upto_region 14 with fail
        refine wp_region_lit ?_
        have C4_12 := Lib.hid (bel_step C4_11.out B11.out)
        have C4_13 := Lib.hid (bel_step C4_12.out B12.out)
        have C4_14 := Lib.hid (bel_step C4_13.out B13.out)
        have C4_15 := Lib.hid (bel_step C4_14.out B14.out)
        have C4_16 := Lib.hid (bel_step C4_15.out B15.out)
        have C4_17 := Lib.hid (bel_step C4_16.out B16.out)
        refine wpList_run (by kernel_rfl) (.agg #[.slice A2 m c2, .slice E2 m d2]) V17 (xo_loadW b10 _ (heap_keep Fv3_10.out C4_17.out) Tryd.underlying30 rfl (by kernel_rfl) rfl rfl) ?_
        simp only [Act.put, List.setIfInBounds_toArray, List.set_cons_zero, List.set_cons_succ]
        refine wpList_run (by kernel_rfl) (.int .i64 z) V17 rfl ?_
        simp only [Act.put, List.setIfInBounds_toArray, List.set_cons_zero, List.set_cons_succ]
        have C3_11 := Lib.hid (bel_step C3_10.out B10.out)
        have C3_12 := Lib.hid (bel_step C3_11.out B11.out)
        have C3_13 := Lib.hid (bel_step C3_12.out B12.out)
        have C3_14 := Lib.hid (bel_step C3_13.out B13.out)
        have C3_15 := Lib.hid (bel_step C3_14.out B14.out)
        have C3_16 := Lib.hid (bel_step C3_15.out B15.out)
        have C3_17 := Lib.hid (bel_step C3_16.out B16.out)
        refine wpList_call (by kernel_rfl) 19 Tryd.func19 (by kernel_rfl) (by kernel_rfl) _ _ #[.agg #[.slice A2 m c2, .slice E2 m d2], .int .i64 z] rfl (by kernel_rfl) ?_
        refine (cols_all A2 m c2 rs E2 d2 gs z HST.out.ok xc kc HCA.out nc HNC.out V17 (HL.out.keep C3_17.out) (HG.out.keep C3_17.out)).mono ?_
        rintro e V18 ⟨Ac1, cc1, rfl, ⟨hsc1, hc0⟩, hb⟩
        have B17 := Lib.hid hb
        have HC1 := Lib.hid hc0
        clear hb hc0
        refine ⟨_, rfl, ?_⟩
        simp only [Act.put, List.setIfInBounds_toArray, List.set_cons_zero, List.set_cons_succ]
        refine wpList_run (by kernel_rfl) (.tuple #[.slice Ac1 nc cc1, .int .i64 (kc : Int)]) V18 rfl ?_
        simp only [Act.put, List.setIfInBounds_toArray, List.set_cons_zero, List.set_cons_succ]
        refine wpList_run (by kernel_rfl) (.slice Ac1 nc cc1) V18 rfl ?_
        simp only [Act.put, List.setIfInBounds_toArray, List.set_cons_zero, List.set_cons_succ]
        refine wpList_run (by kernel_rfl) (.int .i64 (kc : Int)) V18 rfl ?_
        simp only [Act.put, List.setIfInBounds_toArray, List.set_cons_zero, List.set_cons_succ]
        refine wpList_run (by kernel_rfl) (.slice Ac1 nc cc1) V18 rfl ?_
        simp only [Act.put, List.setIfInBounds_toArray, List.set_cons_zero, List.set_cons_succ]
        refine wpList_run (by kernel_rfl) (.int .i64 (kc : Int)) V18 rfl ?_
        simp only [Act.put, List.setIfInBounds_toArray, List.set_cons_zero, List.set_cons_succ]
        refine wpList_nil ?_
        go_upto_region 15 with fail
        refine wp_region_lit ?_
        have C4_18 := Lib.hid (bel_step C4_17.out B17.out)
        refine wpList_run (by kernel_rfl) (.agg #[.slice A2 m c2, .slice E2 m d2]) V18 (xo_loadW b10 _ (heap_keep Fv3_10.out C4_18.out) Tryd.underlying30 rfl (by kernel_rfl) rfl rfl) ?_
        simp only [Act.put, List.setIfInBounds_toArray, List.set_cons_zero, List.set_cons_succ]
        refine wpList_run (by kernel_rfl) (.int .i64 z) V18 rfl ?_
        simp only [Act.put, List.setIfInBounds_toArray, List.set_cons_zero, List.set_cons_succ]
        have C3_18 := Lib.hid (bel_step C3_17.out B17.out)
        refine wpList_call (by kernel_rfl) 20 Tryd.func20 (by kernel_rfl) (by kernel_rfl) _ _ #[.agg #[.slice A2 m c2, .slice E2 m d2], .int .i64 z] rfl (by kernel_rfl) ?_
        refine (rcols_all A2 m c2 rs E2 d2 gs z HST.out.ok xc kc HCA.out nc HNC.out V18 (HL.out.keep C3_18.out) (HG.out.keep C3_18.out)).mono ?_
        rintro e V19 ⟨Ac2, cc2, rfl, ⟨hsc2, hc0⟩, hb⟩
        have B18 := Lib.hid hb
        have HC2 := Lib.hid hc0
        clear hb hc0
        refine ⟨_, rfl, ?_⟩
        simp only [Act.put, List.setIfInBounds_toArray, List.set_cons_zero, List.set_cons_succ]
        refine wpList_run (by kernel_rfl) (.tuple #[.slice Ac2 nc cc2, .int .i64 (kc : Int)]) V19 rfl ?_
        simp only [Act.put, List.setIfInBounds_toArray, List.set_cons_zero, List.set_cons_succ]
        refine wpList_run (by kernel_rfl) (.slice Ac2 nc cc2) V19 rfl ?_
        simp only [Act.put, List.setIfInBounds_toArray, List.set_cons_zero, List.set_cons_succ]
        refine wpList_run (by kernel_rfl) (.int .i64 (kc : Int)) V19 rfl ?_
        simp only [Act.put, List.setIfInBounds_toArray, List.set_cons_zero, List.set_cons_succ]
        refine wpList_run (by kernel_rfl) (.slice Ac2 nc cc2) V19 rfl ?_
        simp only [Act.put, List.setIfInBounds_toArray, List.set_cons_zero, List.set_cons_succ]
        refine wpList_run (by kernel_rfl) (.int .i64 (kc : Int)) V19 rfl ?_
        simp only [Act.put, List.setIfInBounds_toArray, List.set_cons_zero, List.set_cons_succ]
        refine wpList_nil ?_
        go_upto_region 16 with fail
        refine wp_region_lit ?_
        have C4_19 := Lib.hid (bel_step C4_18.out B18.out)
        refine wpList_run (by kernel_rfl) (.agg #[.slice A2 m c2, .slice E2 m d2]) V19 (xo_loadW b10 _ (heap_keep Fv3_10.out C4_19.out) Tryd.underlying30 rfl (by kernel_rfl) rfl rfl) ?_
        simp only [Act.put, List.setIfInBounds_toArray, List.set_cons_zero, List.set_cons_succ]
        refine wpList_run (by kernel_rfl) (.int .i64 z) V19 rfl ?_
        simp only [Act.put, List.setIfInBounds_toArray, List.set_cons_zero, List.set_cons_succ]
        have C3_19 := Lib.hid (bel_step C3_18.out B18.out)
        have C0_16 := Lib.hid (bel_step C0_15.out B15.out)
        have C0_17 := Lib.hid (bel_step C0_16.out B16.out)
        have C0_18 := Lib.hid (bel_step C0_17.out B17.out)
        have C0_19 := Lib.hid (bel_step C0_18.out B18.out)
        refine wpList_call (by kernel_rfl) 21 Tryd.func21 (by kernel_rfl) (by kernel_rfl) _ _ #[.agg #[.slice A2 m c2, .slice E2 m d2], .int .i64 z] rfl (by kernel_rfl) ?_
        refine (bits_all A2 m c2 rs E2 d2 gs z HST.out.ok xb kb HBA.out nb HNB.out V19 (HL.out.keep C3_19.out) (HG.out.keep C3_19.out) (HW.out.keep C0_19.out)).mono ?_
        rintro e V20 ⟨Ab1, cb1, rfl, ⟨hsb1, hc0⟩, hb⟩
        have B19 := Lib.hid hb
        have HBt1 := Lib.hid hc0
        clear hb hc0
        refine ⟨_, rfl, ?_⟩
        simp only [Act.put, List.setIfInBounds_toArray, List.set_cons_zero, List.set_cons_succ]
        refine wpList_run (by kernel_rfl) (.tuple #[.slice Ab1 nb cb1, .int .i64 (kb : Int)]) V20 rfl ?_
        simp only [Act.put, List.setIfInBounds_toArray, List.set_cons_zero, List.set_cons_succ]
        refine wpList_run (by kernel_rfl) (.slice Ab1 nb cb1) V20 rfl ?_
        simp only [Act.put, List.setIfInBounds_toArray, List.set_cons_zero, List.set_cons_succ]
        refine wpList_run (by kernel_rfl) (.int .i64 (kb : Int)) V20 rfl ?_
        simp only [Act.put, List.setIfInBounds_toArray, List.set_cons_zero, List.set_cons_succ]
        refine wpList_run (by kernel_rfl) (.slice Ab1 nb cb1) V20 rfl ?_
        simp only [Act.put, List.setIfInBounds_toArray, List.set_cons_zero, List.set_cons_succ]
        refine wpList_run (by kernel_rfl) (.int .i64 (kb : Int)) V20 rfl ?_
        simp only [Act.put, List.setIfInBounds_toArray, List.set_cons_zero, List.set_cons_succ]
        refine wpList_nil ?_
        go_upto_region 17 with fail
        refine wp_region_lit ?_
        have C4_20 := Lib.hid (bel_step C4_19.out B19.out)
        refine wpList_run (by kernel_rfl) (.agg #[.slice A2 m c2, .slice E2 m d2]) V20 (xo_loadW b10 _ (heap_keep Fv3_10.out C4_20.out) Tryd.underlying30 rfl (by kernel_rfl) rfl rfl) ?_
        simp only [Act.put, List.setIfInBounds_toArray, List.set_cons_zero, List.set_cons_succ]
        refine wpList_run (by kernel_rfl) (.int .i64 z) V20 rfl ?_
        simp only [Act.put, List.setIfInBounds_toArray, List.set_cons_zero, List.set_cons_succ]
        have C3_20 := Lib.hid (bel_step C3_19.out B19.out)
        refine wpList_call (by kernel_rfl) 22 Tryd.func22 (by kernel_rfl) (by kernel_rfl) _ _ #[.agg #[.slice A2 m c2, .slice E2 m d2], .int .i64 z] rfl (by kernel_rfl) ?_
        refine (rbits_all A2 m c2 rs E2 d2 gs z HST.out.ok xb kb HBA.out nb HNB.out V20 (HL.out.keep C3_20.out) (HG.out.keep C3_20.out)).mono ?_
        rintro e V21 ⟨Ab2, cb2, rfl, ⟨hsb2, hc0⟩, hb⟩
        have B20 := Lib.hid hb
        have HBt2 := Lib.hid hc0
        clear hb hc0
        refine ⟨_, rfl, ?_⟩
        simp only [Act.put, List.setIfInBounds_toArray, List.set_cons_zero, List.set_cons_succ]
        refine wpList_run (by kernel_rfl) (.tuple #[.slice Ab2 nb cb2, .int .i64 (kb : Int)]) V21 rfl ?_
        simp only [Act.put, List.setIfInBounds_toArray, List.set_cons_zero, List.set_cons_succ]
        refine wpList_run (by kernel_rfl) (.slice Ab2 nb cb2) V21 rfl ?_
        simp only [Act.put, List.setIfInBounds_toArray, List.set_cons_zero, List.set_cons_succ]
        refine wpList_run (by kernel_rfl) (.int .i64 (kb : Int)) V21 rfl ?_
        simp only [Act.put, List.setIfInBounds_toArray, List.set_cons_zero, List.set_cons_succ]
        refine wpList_run (by kernel_rfl) (.slice Ab2 nb cb2) V21 rfl ?_
        simp only [Act.put, List.setIfInBounds_toArray, List.set_cons_zero, List.set_cons_succ]
        refine wpList_run (by kernel_rfl) (.int .i64 (kb : Int)) V21 rfl ?_
        simp only [Act.put, List.setIfInBounds_toArray, List.set_cons_zero, List.set_cons_succ]
        refine wpList_nil ?_
        go_upto_region 18 with fail
        refine wp_region_lit ?_
        refine wpList_run (by kernel_rfl) (.slice Ay ny cy) V21 rfl ?_
        simp only [Act.put, List.setIfInBounds_toArray, List.set_cons_zero, List.set_cons_succ]
        have C0_20 := Lib.hid (bel_step C0_19.out B19.out)
        have C0_21 := Lib.hid (bel_step C0_20.out B20.out)
        refine wpList_call (by kernel_rfl) 23 Tryd.func23 (by kernel_rfl) (by kernel_rfl) _ _ #[.slice Ay ny cy] rfl (by kernel_rfl) ?_
        refine (decode_all Ay ny cy xs HB8.out rd0 kd HDA.out V21 (HY.out.keep C0_21.out)).mono ?_
        rintro e V22 ⟨rfl, hb⟩
        have B21 := Lib.hid hb
        clear hb 
        refine ⟨_, rfl, ?_⟩
        simp only [Act.put, List.setIfInBounds_toArray, List.set_cons_zero, List.set_cons_succ]
        refine wpList_run (by kernel_rfl) (.tuple #[.agg #[.int .i64 rd0.who, .int .i64 rd0.when_, .int .i64 rd0.kind, .int .i64 rd0.value], .int .i64 (kd : Int)]) V22 rfl ?_
        simp only [Act.put, List.setIfInBounds_toArray, List.set_cons_zero, List.set_cons_succ]
        refine wpList_run (by kernel_rfl) (.agg #[.int .i64 rd0.who, .int .i64 rd0.when_, .int .i64 rd0.kind, .int .i64 rd0.value]) V22 rfl ?_
        simp only [Act.put, List.setIfInBounds_toArray, List.set_cons_zero, List.set_cons_succ]
        refine wpList_run (by kernel_rfl) (.int .i64 (kd : Int)) V22 rfl ?_
        simp only [Act.put, List.setIfInBounds_toArray, List.set_cons_zero, List.set_cons_succ]
        refine wpList_new #[.int .i64 0, .int .i64 0, .int .i64 0, .int .i64 0] 24 (by kernel_rfl) (xo_alloc #[.int .i64 0, .int .i64 0, .int .i64 0, .int .i64 0] (by kernel_rfl) rfl) ?_
        intro b28 V23 hge h0 hb
        have C1_16 := Lib.hid (bel_step C1_15.out B15.out)
        have C1_17 := Lib.hid (bel_step C1_16.out B16.out)
        have C1_18 := Lib.hid (bel_step C1_17.out B17.out)
        have C1_19 := Lib.hid (bel_step C1_18.out B18.out)
        have C1_20 := Lib.hid (bel_step C1_19.out B19.out)
        have C1_21 := Lib.hid (bel_step C1_20.out B20.out)
        have C1_22 := Lib.hid (bel_step C1_21.out B21.out)
        have N37_0 : Hid (w.heap.size ≠ b28) := Lib.hid (xp_lt0 (heap_keep Fv0_5.out C1_22.out) hge)
        have C4_21 := Lib.hid (bel_step C4_20.out B20.out)
        have C4_22 := Lib.hid (bel_step C4_21.out B21.out)
        have N38_1 : Hid (b10 ≠ b28) := Lib.hid (xp_lt0 (heap_keep Fv3_10.out C4_22.out) hge)
        have C6_14 := Lib.hid (bel_step C6_13.out B13.out)
        have C6_15 := Lib.hid (bel_step C6_14.out B14.out)
        have C6_16 := Lib.hid (bel_step C6_15.out B15.out)
        have C6_17 := Lib.hid (bel_step C6_16.out B16.out)
        have C6_18 := Lib.hid (bel_step C6_17.out B17.out)
        have C6_19 := Lib.hid (bel_step C6_18.out B18.out)
        have C6_20 := Lib.hid (bel_step C6_19.out B19.out)
        have C6_21 := Lib.hid (bel_step C6_20.out B20.out)
        have C6_22 := Lib.hid (bel_step C6_21.out B21.out)
        have N39_2 : Hid (b11 ≠ b28) := Lib.hid (xp_lt0 (heap_keep Fv10_11.out C6_22.out) hge)
        have C8_14 := Lib.hid (bel_step C8_13.out B13.out)
        have C8_15 := Lib.hid (bel_step C8_14.out B14.out)
        have C8_16 := Lib.hid (bel_step C8_15.out B15.out)
        have C8_17 := Lib.hid (bel_step C8_16.out B16.out)
        have C8_18 := Lib.hid (bel_step C8_17.out B17.out)
        have C8_19 := Lib.hid (bel_step C8_18.out B18.out)
        have C8_20 := Lib.hid (bel_step C8_19.out B19.out)
        have C8_21 := Lib.hid (bel_step C8_20.out B20.out)
        have C8_22 := Lib.hid (bel_step C8_21.out B21.out)
        have N40_3 : Hid (b13 ≠ b28) := Lib.hid (xp_lt0 (heap_keep Fv17_13.out C8_22.out) hge)
        have C10_15 := Lib.hid (bel_step C10_14.out B14.out)
        have C10_16 := Lib.hid (bel_step C10_15.out B15.out)
        have C10_17 := Lib.hid (bel_step C10_16.out B16.out)
        have C10_18 := Lib.hid (bel_step C10_17.out B17.out)
        have C10_19 := Lib.hid (bel_step C10_18.out B18.out)
        have C10_20 := Lib.hid (bel_step C10_19.out B19.out)
        have C10_21 := Lib.hid (bel_step C10_20.out B20.out)
        have C10_22 := Lib.hid (bel_step C10_21.out B21.out)
        have N41_4 : Hid (b15 ≠ b28) := Lib.hid (xp_lt0 (heap_keep Fv25_15.out C10_22.out) hge)
        have C12_15 := Lib.hid (bel_step C12_14.out B14.out)
        have C12_16 := Lib.hid (bel_step C12_15.out B15.out)
        have C12_17 := Lib.hid (bel_step C12_16.out B16.out)
        have C12_18 := Lib.hid (bel_step C12_17.out B17.out)
        have C12_19 := Lib.hid (bel_step C12_18.out B18.out)
        have C12_20 := Lib.hid (bel_step C12_19.out B19.out)
        have C12_21 := Lib.hid (bel_step C12_20.out B20.out)
        have C12_22 := Lib.hid (bel_step C12_21.out B21.out)
        have N42_5 : Hid (b17 ≠ b28) := Lib.hid (xp_lt0 (heap_keep Fv34_17.out C12_22.out) hge)
        have Ge43 : Hid (V22.heap.size ≤ b28) := Lib.hid hge
        have B22 := Lib.hid hb
        have Fv44_28 : Hid (V23.heap[b28]? = some (.cells #[.int .i64 0, .int .i64 0, .int .i64 0, .int .i64 0] 24 (0, 0))) := Lib.hid (h0)
        have Lt45 : Hid (b28 < V23.heap.size) := Lib.hid (xp_lt Fv44_28.out)
        clear hge h0 hb
        simp only [ptr, Act.put, List.setIfInBounds_toArray, List.set_cons_zero, List.set_cons_succ]
        refine wpList_storeW b28 #[.int .i64 0, .int .i64 0, .int .i64 0, .int .i64 0] #[.int .i64 rd0.who, .int .i64 rd0.when_, .int .i64 rd0.kind, .int .i64 rd0.value] 24 (by kernel_rfl) Fv44_28.out (xo_storeW b28 #[.int .i64 0, .int .i64 0, .int .i64 0, .int .i64 0] #[.int .i64 rd0.who, .int .i64 rd0.when_, .int .i64 rd0.kind, .int .i64 rd0.value] Fv44_28.out (by kernel_rfl) rfl (by simp [Value.oneCell']) rfl rfl rfl) ?_
        intro X23_46 h1 hfar hbel hsz
        have hbr := hbel _ _ Ge43.out B22.out
        clear B22
        have B22 := Lib.hid hbr
        clear hbr
        clear Fv44_28
        have Fv44_28 : Hid (X23_46.heap[b28]? = some (.cells #[.int .i64 rd0.who, .int .i64 rd0.when_, .int .i64 rd0.kind, .int .i64 rd0.value] 24 (0, 0))) := Lib.hid (h1)
        have HszX23_46 := Lib.hid hsz
        clear h1 hfar hbel hsz
        simp only [ptr, Act.put, List.setIfInBounds_toArray, List.set_cons_zero, List.set_cons_succ]
        refine wpList_run (by kernel_rfl) (.int .i64 (kd : Int)) X23_46 rfl ?_
        simp only [Act.put, List.setIfInBounds_toArray, List.set_cons_zero, List.set_cons_succ]
        refine wpList_nil ?_
        go_upto_region 19 with fail
        refine wp_region_lit ?_
        refine wpList_run (by kernel_rfl) (.slice Ay ny cy) X23_46 rfl ?_
        simp only [Act.put, List.setIfInBounds_toArray, List.set_cons_zero, List.set_cons_succ]
        have C0_22 := Lib.hid (bel_step C0_21.out B21.out)
        have C0_23 := Lib.hid (bel_step C0_22.out B22.out)
        refine wpList_call (by kernel_rfl) 24 Tryd.func24 (by kernel_rfl) (by kernel_rfl) _ _ #[.slice Ay ny cy] rfl (by kernel_rfl) ?_
        refine (rdecode_all Ay ny cy xs HB8.out rd0 kd HDA.out X23_46 (HY.out.keep C0_23.out)).mono ?_
        rintro e V24 ⟨rfl, hb⟩
        have B23 := Lib.hid hb
        clear hb 
        refine ⟨_, rfl, ?_⟩
        simp only [Act.put, List.setIfInBounds_toArray, List.set_cons_zero, List.set_cons_succ]
        refine wpList_run (by kernel_rfl) (.tuple #[.agg #[.int .i64 rd0.who, .int .i64 rd0.when_, .int .i64 rd0.kind, .int .i64 rd0.value], .int .i64 (kd : Int)]) V24 rfl ?_
        simp only [Act.put, List.setIfInBounds_toArray, List.set_cons_zero, List.set_cons_succ]
        refine wpList_run (by kernel_rfl) (.agg #[.int .i64 rd0.who, .int .i64 rd0.when_, .int .i64 rd0.kind, .int .i64 rd0.value]) V24 rfl ?_
        simp only [Act.put, List.setIfInBounds_toArray, List.set_cons_zero, List.set_cons_succ]
        refine wpList_run (by kernel_rfl) (.int .i64 (kd : Int)) V24 rfl ?_
        simp only [Act.put, List.setIfInBounds_toArray, List.set_cons_zero, List.set_cons_succ]
        refine wpList_new #[.int .i64 0, .int .i64 0, .int .i64 0, .int .i64 0] 24 (by kernel_rfl) (xo_alloc #[.int .i64 0, .int .i64 0, .int .i64 0, .int .i64 0] (by kernel_rfl) rfl) ?_
        intro b30 V25 hge h0 hb
        have C1_23 := Lib.hid (bel_step C1_22.out B22.out)
        have C1_24 := Lib.hid (bel_step C1_23.out B23.out)
        have N47_0 : Hid (w.heap.size ≠ b30) := Lib.hid (xp_lt0 (heap_keep Fv0_5.out C1_24.out) hge)
        have C4_23 := Lib.hid (bel_step C4_22.out B22.out)
        have C4_24 := Lib.hid (bel_step C4_23.out B23.out)
        have N48_1 : Hid (b10 ≠ b30) := Lib.hid (xp_lt0 (heap_keep Fv3_10.out C4_24.out) hge)
        have C6_23 := Lib.hid (bel_step C6_22.out B22.out)
        have C6_24 := Lib.hid (bel_step C6_23.out B23.out)
        have N49_2 : Hid (b11 ≠ b30) := Lib.hid (xp_lt0 (heap_keep Fv10_11.out C6_24.out) hge)
        have C8_23 := Lib.hid (bel_step C8_22.out B22.out)
        have C8_24 := Lib.hid (bel_step C8_23.out B23.out)
        have N50_3 : Hid (b13 ≠ b30) := Lib.hid (xp_lt0 (heap_keep Fv17_13.out C8_24.out) hge)
        have C10_23 := Lib.hid (bel_step C10_22.out B22.out)
        have C10_24 := Lib.hid (bel_step C10_23.out B23.out)
        have N51_4 : Hid (b15 ≠ b30) := Lib.hid (xp_lt0 (heap_keep Fv25_15.out C10_24.out) hge)
        have C12_23 := Lib.hid (bel_step C12_22.out B22.out)
        have C12_24 := Lib.hid (bel_step C12_23.out B23.out)
        have N52_5 : Hid (b17 ≠ b30) := Lib.hid (xp_lt0 (heap_keep Fv34_17.out C12_24.out) hge)
        have N53_6 : Hid (b28 ≠ b30) := Lib.hid (xp_lt0 (heap_keep Fv44_28.out B23.out) hge)
        have Ge54 : Hid (V24.heap.size ≤ b30) := Lib.hid hge
        have B24 := Lib.hid hb
        have Fv55_30 : Hid (V25.heap[b30]? = some (.cells #[.int .i64 0, .int .i64 0, .int .i64 0, .int .i64 0] 24 (0, 0))) := Lib.hid (h0)
        have Lt56 : Hid (b30 < V25.heap.size) := Lib.hid (xp_lt Fv55_30.out)
        clear hge h0 hb
        simp only [ptr, Act.put, List.setIfInBounds_toArray, List.set_cons_zero, List.set_cons_succ]
        refine wpList_storeW b30 #[.int .i64 0, .int .i64 0, .int .i64 0, .int .i64 0] #[.int .i64 rd0.who, .int .i64 rd0.when_, .int .i64 rd0.kind, .int .i64 rd0.value] 24 (by kernel_rfl) Fv55_30.out (xo_storeW b30 #[.int .i64 0, .int .i64 0, .int .i64 0, .int .i64 0] #[.int .i64 rd0.who, .int .i64 rd0.when_, .int .i64 rd0.kind, .int .i64 rd0.value] Fv55_30.out (by kernel_rfl) rfl (by simp [Value.oneCell']) rfl rfl rfl) ?_
        intro X25_57 h1 hfar hbel hsz
        have hbr := hbel _ _ Ge54.out B24.out
        clear B24
        have B24 := Lib.hid hbr
        clear hbr
        clear Fv55_30
        have Fv55_30 : Hid (X25_57.heap[b30]? = some (.cells #[.int .i64 rd0.who, .int .i64 rd0.when_, .int .i64 rd0.kind, .int .i64 rd0.value] 24 (0, 0))) := Lib.hid (h1)
        have HszX25_57 := Lib.hid hsz
        clear h1 hfar hbel hsz
        simp only [ptr, Act.put, List.setIfInBounds_toArray, List.set_cons_zero, List.set_cons_succ]
        refine wpList_run (by kernel_rfl) (.int .i64 (kd : Int)) X25_57 rfl ?_
        simp only [Act.put, List.setIfInBounds_toArray, List.set_cons_zero, List.set_cons_succ]
        refine wpList_nil ?_
        go_upto_region 20 with fail
        refine wp_region_lit ?_
        refine wpList_run (by kernel_rfl) (.pointer (some ⟨w.heap.size, 0, none⟩)) X25_57 (xo_fld0 0 w.heap.size 0 (by kernel_rfl) rfl rfl) ?_
        simp only [Act.put, List.setIfInBounds_toArray, List.set_cons_zero, List.set_cons_succ]
        have C1_25 := Lib.hid (bel_step C1_24.out B24.out)
        refine wpList_run (by kernel_rfl) (.int .i64 r.who) X25_57 (xo_load1 ⟨w.heap.size, 0, none⟩ _ (cells_at (heap_keep Fv0_5.out C1_25.out) 0 rfl) Tryd.underlying3 rfl rfl rfl) ?_
        simp only [Act.put, List.setIfInBounds_toArray, List.set_cons_zero, List.set_cons_succ]
        refine wpList_run (by kernel_rfl) (.int .u8 (x : Int)) X25_57 (xo_cvt .i64 .u8 r.who (x : Int) (by rw [IntKind.wrap_u8]; omega) Tryd.underlying5 Tryd.underlying3 rfl rfl) ?_
        simp only [Act.put, List.setIfInBounds_toArray, List.set_cons_zero, List.set_cons_succ]
        refine wpList_run (by kernel_rfl) (.pointer (some ⟨w.heap.size, 1, none⟩)) X25_57 (xo_fld0 1 w.heap.size 1 (by kernel_rfl) rfl rfl) ?_
        simp only [Act.put, List.setIfInBounds_toArray, List.set_cons_zero, List.set_cons_succ]
        refine wpList_run (by kernel_rfl) (.int .i64 r.when_) X25_57 (xo_load1 ⟨w.heap.size, 1, none⟩ _ (cells_at (heap_keep Fv0_5.out C1_25.out) 1 rfl) Tryd.underlying3 rfl rfl rfl) ?_
        simp only [Act.put, List.setIfInBounds_toArray, List.set_cons_zero, List.set_cons_succ]
        refine wpList_run (by kernel_rfl) (.int .u8 (y : Int)) X25_57 (xo_cvt .i64 .u8 r.when_ (y : Int) (by rw [IntKind.wrap_u8]; omega) Tryd.underlying5 Tryd.underlying3 rfl rfl) ?_
        simp only [Act.put, List.setIfInBounds_toArray, List.set_cons_zero, List.set_cons_succ]
        refine wpList_run (by kernel_rfl) (.pointer (some ⟨w.heap.size, 3, none⟩)) X25_57 (xo_fld0 3 w.heap.size 3 (by kernel_rfl) rfl rfl) ?_
        simp only [Act.put, List.setIfInBounds_toArray, List.set_cons_zero, List.set_cons_succ]
        refine wpList_run (by kernel_rfl) (.int .i64 r.value) X25_57 (xo_load1 ⟨w.heap.size, 3, none⟩ _ (cells_at (heap_keep Fv0_5.out C1_25.out) 3 rfl) Tryd.underlying3 rfl rfl rfl) ?_
        simp only [Act.put, List.setIfInBounds_toArray, List.set_cons_zero, List.set_cons_succ]
        refine wpList_run (by kernel_rfl) (.int .u8 (q : Int)) X25_57 (xo_cvt .i64 .u8 r.value (q : Int) (by rw [IntKind.wrap_u8]; omega) Tryd.underlying5 Tryd.underlying3 rfl rfl) ?_
        simp only [Act.put, List.setIfInBounds_toArray, List.set_cons_zero, List.set_cons_succ]
        refine wpList_run (by kernel_rfl) (.agg #[.int .u8 (x : Int), .int .u8 (y : Int), .int .u8 (q : Int)]) X25_57 (by unfold execOp; go_simp) ?_
        simp only [Act.put, List.setIfInBounds_toArray, List.set_cons_zero, List.set_cons_succ]
        refine wpList_call (by kernel_rfl) 25 Tryd.func25 (by kernel_rfl) (by kernel_rfl) _ _ #[.agg #[.int .u8 (x : Int), .int .u8 (y : Int), .int .u8 (q : Int)]] rfl (by kernel_rfl) ?_
        refine (rreading_any x y q hx8 hy8 hq8 X25_57).mono ?_
        rintro e V26 ⟨rfl, hb⟩
        have B25 := Lib.hid hb
        clear hb 
        refine ⟨_, rfl, ?_⟩
        simp only [Act.put, List.setIfInBounds_toArray, List.set_cons_zero, List.set_cons_succ]
        refine wpList_new #[.int .i64 0, .int .i64 0, .int .i64 0, .int .i64 0] 24 (by kernel_rfl) (xo_alloc #[.int .i64 0, .int .i64 0, .int .i64 0, .int .i64 0] (by kernel_rfl) rfl) ?_
        intro b32 V27 hge h0 hb
        have C1_26 := Lib.hid (bel_step C1_25.out B25.out)
        have N58_0 : Hid (w.heap.size ≠ b32) := Lib.hid (xp_lt0 (heap_keep Fv0_5.out C1_26.out) hge)
        have C4_25 := Lib.hid (bel_step C4_24.out B24.out)
        have C4_26 := Lib.hid (bel_step C4_25.out B25.out)
        have N59_1 : Hid (b10 ≠ b32) := Lib.hid (xp_lt0 (heap_keep Fv3_10.out C4_26.out) hge)
        have C6_25 := Lib.hid (bel_step C6_24.out B24.out)
        have C6_26 := Lib.hid (bel_step C6_25.out B25.out)
        have N60_2 : Hid (b11 ≠ b32) := Lib.hid (xp_lt0 (heap_keep Fv10_11.out C6_26.out) hge)
        have C8_25 := Lib.hid (bel_step C8_24.out B24.out)
        have C8_26 := Lib.hid (bel_step C8_25.out B25.out)
        have N61_3 : Hid (b13 ≠ b32) := Lib.hid (xp_lt0 (heap_keep Fv17_13.out C8_26.out) hge)
        have C10_25 := Lib.hid (bel_step C10_24.out B24.out)
        have C10_26 := Lib.hid (bel_step C10_25.out B25.out)
        have N62_4 : Hid (b15 ≠ b32) := Lib.hid (xp_lt0 (heap_keep Fv25_15.out C10_26.out) hge)
        have C12_25 := Lib.hid (bel_step C12_24.out B24.out)
        have C12_26 := Lib.hid (bel_step C12_25.out B25.out)
        have N63_5 : Hid (b17 ≠ b32) := Lib.hid (xp_lt0 (heap_keep Fv34_17.out C12_26.out) hge)
        have C23_25 := Lib.hid (bel_step B23.out B24.out)
        have C23_26 := Lib.hid (bel_step C23_25.out B25.out)
        have N64_6 : Hid (b28 ≠ b32) := Lib.hid (xp_lt0 (heap_keep Fv44_28.out C23_26.out) hge)
        have N65_7 : Hid (b30 ≠ b32) := Lib.hid (xp_lt0 (heap_keep Fv55_30.out B25.out) hge)
        have Ge66 : Hid (V26.heap.size ≤ b32) := Lib.hid hge
        have B26 := Lib.hid hb
        have Fv67_32 : Hid (V27.heap[b32]? = some (.cells #[.int .i64 0, .int .i64 0, .int .i64 0, .int .i64 0] 24 (0, 0))) := Lib.hid (h0)
        have Lt68 : Hid (b32 < V27.heap.size) := Lib.hid (xp_lt Fv67_32.out)
        clear hge h0 hb
        simp only [ptr, Act.put, List.setIfInBounds_toArray, List.set_cons_zero, List.set_cons_succ]
        refine wpList_storeW b32 #[.int .i64 0, .int .i64 0, .int .i64 0, .int .i64 0] #[.int .i64 ((decR x y q).who), .int .i64 ((decR x y q).when_), .int .i64 ((decR x y q).kind), .int .i64 ((decR x y q).value)] 24 (by kernel_rfl) Fv67_32.out (xo_storeW b32 #[.int .i64 0, .int .i64 0, .int .i64 0, .int .i64 0] #[.int .i64 ((decR x y q).who), .int .i64 ((decR x y q).when_), .int .i64 ((decR x y q).kind), .int .i64 ((decR x y q).value)] Fv67_32.out (by kernel_rfl) rfl (by simp [Value.oneCell']) rfl rfl rfl) ?_
        intro X27_69 h1 hfar hbel hsz
        have hbr := hbel _ _ Ge66.out B26.out
        clear B26
        have B26 := Lib.hid hbr
        clear hbr
        clear Fv67_32
        have Fv67_32 : Hid (X27_69.heap[b32]? = some (.cells #[.int .i64 ((decR x y q).who), .int .i64 ((decR x y q).when_), .int .i64 ((decR x y q).kind), .int .i64 ((decR x y q).value)] 24 (0, 0))) := Lib.hid (h1)
        have HszX27_69 := Lib.hid hsz
        clear h1 hfar hbel hsz
        simp only [ptr, Act.put, List.setIfInBounds_toArray, List.set_cons_zero, List.set_cons_succ]
        refine wpList_nil ?_
        go_upto_region 21 with fail
        try simp only [List.append_eq, List.cons_append, List.nil_append]
        refine wp_ordX (.q 0 (.q 1 (.q 2 (.q 3 (.one 4 (.q 5 (.q 6 (.q 7 (.q 8 (.q 9 (.q 10 (.q 11 (.q 12 (.q 13 (.one 14 (.q 15 (.q 16 (.q 17 (.q 18 (.q 19 (.q 20 (.q 21 (.q 22 (.q 23 (.q 24 (.q 25 (.q 26 (.q 27 (.q 28 (.q 29 (.q 30 (.q 31 (.q 32 (.q 35 (.one 33 (.q 34 (.one 36 (.q 37 (.q 38 (.q 39 (.q 40 .nil))))))))))))))))))))))))))))))))))))))))) (by kernel_rfl) (by kernel_rfl) (fun _ _ dt _ _ h => by first | exact h.elim | (cases dt <;> exact h)) (by kernel_rfl) (by kernel_rfl) (fun V28 hb => ?_)
        have B27 := Lib.hid hb
        clear hb
        refine wpX_q (.bool true) rfl (by kernel_rfl) (fun v hW => rfl) ?_
        simp only [ptr, Act.put, List.setIfInBounds_toArray, List.set_cons_zero, List.set_cons_succ]
        refine wpX_q (.bool true) rfl (by kernel_rfl) (fun v hW => rfl) ?_
        simp only [ptr, Act.put, List.setIfInBounds_toArray, List.set_cons_zero, List.set_cons_succ]
        refine wpX_q (.slice Ac1 nc cc1) rfl (by kernel_rfl) (fun v hW => rfl) ?_
        simp only [ptr, Act.put, List.setIfInBounds_toArray, List.set_cons_zero, List.set_cons_succ]
        refine wpX_q (.slice Ac2 nc cc2) rfl (by kernel_rfl) (fun v hW => rfl) ?_
        simp only [ptr, Act.put, List.setIfInBounds_toArray, List.set_cons_zero, List.set_cons_succ]
        refine wpX_one rfl (by kernel_rfl) ?_
        have C18_20 := Lib.hid (bel_step B18.out B19.out)
        have C18_21 := Lib.hid (bel_step C18_20.out B20.out)
        have C18_22 := Lib.hid (bel_step C18_21.out B21.out)
        have C18_23 := Lib.hid (bel_step C18_22.out B22.out)
        have C18_24 := Lib.hid (bel_step C18_23.out B23.out)
        have C18_25 := Lib.hid (bel_step C18_24.out B24.out)
        have C18_26 := Lib.hid (bel_step C18_25.out B25.out)
        have C18_27 := Lib.hid (bel_step C18_26.out B26.out)
        have C18_28 := Lib.hid (bel_step C18_27.out B27.out)
        have C19_21 := Lib.hid (bel_step B19.out B20.out)
        have C19_22 := Lib.hid (bel_step C19_21.out B21.out)
        have C19_23 := Lib.hid (bel_step C19_22.out B22.out)
        have C19_24 := Lib.hid (bel_step C19_23.out B23.out)
        have C19_25 := Lib.hid (bel_step C19_24.out B24.out)
        have C19_26 := Lib.hid (bel_step C19_25.out B25.out)
        have C19_27 := Lib.hid (bel_step C19_26.out B26.out)
        have C19_28 := Lib.hid (bel_step C19_27.out B27.out)
        refine hOp_call 26 Tryd.func26 (by kernel_rfl) (by kernel_rfl) _ _ #[.slice Ac1 nc cc1, .slice Ac2 nc cc2] rfl (by kernel_rfl) ?_
        refine (sameCols_yes Ac1 nc cc1 hsc1 Ac2 cc2 hsc2 xc V28 (HC1.out.keep C18_28.out) (HC2.out.keep C19_28.out)).mono ?_
        rintro e V29 ⟨rfl, hb⟩
        have B28 := Lib.hid hb
        clear hb 
        refine ⟨_, rfl, B28.out, ?_⟩
        simp only [ptr, Act.put, List.setIfInBounds_toArray, List.set_cons_zero, List.set_cons_succ]
        refine wpX_q (.bool true) rfl (by kernel_rfl) (fun v hW => rfl) ?_
        simp only [ptr, Act.put, List.setIfInBounds_toArray, List.set_cons_zero, List.set_cons_succ]
        refine wpX_q (.bool true) rfl (by kernel_rfl) (fun v hW => rfl) ?_
        simp only [ptr, Act.put, List.setIfInBounds_toArray, List.set_cons_zero, List.set_cons_succ]
        refine wpX_q (.int .i64 (kc : Int)) rfl (by kernel_rfl) (fun v hW => rfl) ?_
        simp only [ptr, Act.put, List.setIfInBounds_toArray, List.set_cons_zero, List.set_cons_succ]
        refine wpX_q (.int .i64 (kc : Int)) rfl (by kernel_rfl) (fun v hW => rfl) ?_
        simp only [ptr, Act.put, List.setIfInBounds_toArray, List.set_cons_zero, List.set_cons_succ]
        refine wpX_q (.bool true) rfl (by kernel_rfl) (fun v hW => (xo_eqlT .i64 (kc : Int) (kc : Int) (by omega) rfl rfl rfl)) ?_
        simp only [ptr, Act.put, List.setIfInBounds_toArray, List.set_cons_zero, List.set_cons_succ]
        refine wpX_q (.bool true) rfl (by kernel_rfl) (fun v hW => rfl) ?_
        simp only [ptr, Act.put, List.setIfInBounds_toArray, List.set_cons_zero, List.set_cons_succ]
        refine wpX_q (.bool true) rfl (by kernel_rfl) (fun v hW => rfl) ?_
        simp only [ptr, Act.put, List.setIfInBounds_toArray, List.set_cons_zero, List.set_cons_succ]
        refine wpX_q (.slice Ab1 nb cb1) rfl (by kernel_rfl) (fun v hW => rfl) ?_
        simp only [ptr, Act.put, List.setIfInBounds_toArray, List.set_cons_zero, List.set_cons_succ]
        refine wpX_q (.slice Ab2 nb cb2) rfl (by kernel_rfl) (fun v hW => rfl) ?_
        simp only [ptr, Act.put, List.setIfInBounds_toArray, List.set_cons_zero, List.set_cons_succ]
        refine wpX_one rfl (by kernel_rfl) ?_
        have C20_22 := Lib.hid (bel_step B20.out B21.out)
        have C20_23 := Lib.hid (bel_step C20_22.out B22.out)
        have C20_24 := Lib.hid (bel_step C20_23.out B23.out)
        have C20_25 := Lib.hid (bel_step C20_24.out B24.out)
        have C20_26 := Lib.hid (bel_step C20_25.out B25.out)
        have C20_27 := Lib.hid (bel_step C20_26.out B26.out)
        have C20_28 := Lib.hid (bel_step C20_27.out B27.out)
        have C20_29 := Lib.hid (bel_step C20_28.out B28.out)
        have C21_23 := Lib.hid (bel_step B21.out B22.out)
        have C21_24 := Lib.hid (bel_step C21_23.out B23.out)
        have C21_25 := Lib.hid (bel_step C21_24.out B24.out)
        have C21_26 := Lib.hid (bel_step C21_25.out B25.out)
        have C21_27 := Lib.hid (bel_step C21_26.out B26.out)
        have C21_28 := Lib.hid (bel_step C21_27.out B27.out)
        have C21_29 := Lib.hid (bel_step C21_28.out B28.out)
        refine hOp_call 26 Tryd.func26 (by kernel_rfl) (by kernel_rfl) _ _ #[.slice Ab1 nb cb1, .slice Ab2 nb cb2] rfl (by kernel_rfl) ?_
        refine (sameCols_yes Ab1 nb cb1 hsb1 Ab2 cb2 hsb2 xb V29 (HBt1.out.keep C20_29.out) (HBt2.out.keep C21_29.out)).mono ?_
        rintro e V30 ⟨rfl, hb⟩
        have B29 := Lib.hid hb
        clear hb 
        refine ⟨_, rfl, B29.out, ?_⟩
        simp only [ptr, Act.put, List.setIfInBounds_toArray, List.set_cons_zero, List.set_cons_succ]
        refine wpX_q (.bool true) rfl (by kernel_rfl) (fun v hW => rfl) ?_
        simp only [ptr, Act.put, List.setIfInBounds_toArray, List.set_cons_zero, List.set_cons_succ]
        refine wpX_q (.bool true) rfl (by kernel_rfl) (fun v hW => rfl) ?_
        simp only [ptr, Act.put, List.setIfInBounds_toArray, List.set_cons_zero, List.set_cons_succ]
        refine wpX_q (.int .i64 (kb : Int)) rfl (by kernel_rfl) (fun v hW => rfl) ?_
        simp only [ptr, Act.put, List.setIfInBounds_toArray, List.set_cons_zero, List.set_cons_succ]
        refine wpX_q (.int .i64 (kb : Int)) rfl (by kernel_rfl) (fun v hW => rfl) ?_
        simp only [ptr, Act.put, List.setIfInBounds_toArray, List.set_cons_zero, List.set_cons_succ]
        refine wpX_q (.bool true) rfl (by kernel_rfl) (fun v hW => (xo_eqlT .i64 (kb : Int) (kb : Int) (by omega) rfl rfl rfl)) ?_
        simp only [ptr, Act.put, List.setIfInBounds_toArray, List.set_cons_zero, List.set_cons_succ]
        refine wpX_q (.bool true) rfl (by kernel_rfl) (fun v hW => rfl) ?_
        simp only [ptr, Act.put, List.setIfInBounds_toArray, List.set_cons_zero, List.set_cons_succ]
        refine wpX_q (.bool true) rfl (by kernel_rfl) (fun v hW => rfl) ?_
        simp only [ptr, Act.put, List.setIfInBounds_toArray, List.set_cons_zero, List.set_cons_succ]
        have C23_27 := Lib.hid (bel_step C23_26.out B26.out)
        have C23_28 := Lib.hid (bel_step C23_27.out B27.out)
        have C23_29 := Lib.hid (bel_step C23_28.out B28.out)
        have C23_30 := Lib.hid (bel_step C23_29.out B29.out)
        refine wpX_q (.agg #[.int .i64 rd0.who, .int .i64 rd0.when_, .int .i64 rd0.kind, .int .i64 rd0.value]) rfl (by kernel_rfl) (fun v hW => (xo_loadW b28 _ (heap_keep (heap_keep Fv44_28.out C23_30.out) hW) Tryd.underlying24 rfl (by kernel_rfl) rfl rfl)) ?_
        simp only [ptr, Act.put, List.setIfInBounds_toArray, List.set_cons_zero, List.set_cons_succ]
        have C25_27 := Lib.hid (bel_step B25.out B26.out)
        have C25_28 := Lib.hid (bel_step C25_27.out B27.out)
        have C25_29 := Lib.hid (bel_step C25_28.out B28.out)
        have C25_30 := Lib.hid (bel_step C25_29.out B29.out)
        refine wpX_q (.agg #[.int .i64 rd0.who, .int .i64 rd0.when_, .int .i64 rd0.kind, .int .i64 rd0.value]) rfl (by kernel_rfl) (fun v hW => (xo_loadW b30 _ (heap_keep (heap_keep Fv55_30.out C25_30.out) hW) Tryd.underlying24 rfl (by kernel_rfl) rfl rfl)) ?_
        simp only [ptr, Act.put, List.setIfInBounds_toArray, List.set_cons_zero, List.set_cons_succ]
        refine wpX_q (.bool true) rfl (by kernel_rfl) (fun v hW => (exec_eqRd (Rd.mk rd0.who rd0.when_ rd0.kind rd0.value) rfl rfl rfl)) ?_
        simp only [ptr, Act.put, List.setIfInBounds_toArray, List.set_cons_zero, List.set_cons_succ]
        refine wpX_q (.bool true) rfl (by kernel_rfl) (fun v hW => rfl) ?_
        simp only [ptr, Act.put, List.setIfInBounds_toArray, List.set_cons_zero, List.set_cons_succ]
        refine wpX_q (.bool true) rfl (by kernel_rfl) (fun v hW => rfl) ?_
        simp only [ptr, Act.put, List.setIfInBounds_toArray, List.set_cons_zero, List.set_cons_succ]
        refine wpX_q (.int .i64 (kd : Int)) rfl (by kernel_rfl) (fun v hW => rfl) ?_
        simp only [ptr, Act.put, List.setIfInBounds_toArray, List.set_cons_zero, List.set_cons_succ]
        refine wpX_q (.int .i64 (kd : Int)) rfl (by kernel_rfl) (fun v hW => rfl) ?_
        simp only [ptr, Act.put, List.setIfInBounds_toArray, List.set_cons_zero, List.set_cons_succ]
        refine wpX_q (.bool true) rfl (by kernel_rfl) (fun v hW => (xo_eqlT .i64 (kd : Int) (kd : Int) (by omega) rfl rfl rfl)) ?_
        simp only [ptr, Act.put, List.setIfInBounds_toArray, List.set_cons_zero, List.set_cons_succ]
        refine wpX_q (.bool true) rfl (by kernel_rfl) (fun v hW => rfl) ?_
        simp only [ptr, Act.put, List.setIfInBounds_toArray, List.set_cons_zero, List.set_cons_succ]
        refine wpX_q (.bool true) rfl (by kernel_rfl) (fun v hW => rfl) ?_
        simp only [ptr, Act.put, List.setIfInBounds_toArray, List.set_cons_zero, List.set_cons_succ]
        have C27_29 := Lib.hid (bel_step B27.out B28.out)
        have C27_30 := Lib.hid (bel_step C27_29.out B29.out)
        refine wpX_q (.agg #[.int .i64 ((decR x y q).who), .int .i64 ((decR x y q).when_), .int .i64 ((decR x y q).kind), .int .i64 ((decR x y q).value)]) rfl (by kernel_rfl) (fun v hW => (xo_loadW b32 _ (heap_keep (heap_keep Fv67_32.out C27_30.out) hW) Tryd.underlying24 rfl (by kernel_rfl) rfl rfl)) ?_
        simp only [ptr, Act.put, List.setIfInBounds_toArray, List.set_cons_zero, List.set_cons_succ]
        refine wpX_q (.agg #[.int .i64 ((decR x y q).who), .int .i64 ((decR x y q).when_), .int .i64 ((decR x y q).kind), .int .i64 ((decR x y q).value)]) rfl (by kernel_rfl) (fun v hW => (xo_loadW b32 _ (heap_keep (heap_keep Fv67_32.out C27_30.out) hW) Tryd.underlying24 rfl (by kernel_rfl) rfl rfl)) ?_
        simp only [ptr, Act.put, List.setIfInBounds_toArray, List.set_cons_zero, List.set_cons_succ]
        refine wpX_one rfl (by kernel_rfl) ?_
        refine hOp_call 27 Tryd.func27 (by kernel_rfl) (by kernel_rfl) _ _ #[.agg #[.int .i64 ((decR x y q).who), .int .i64 ((decR x y q).when_), .int .i64 ((decR x y q).kind), .int .i64 ((decR x y q).value)]] rfl (by kernel_rfl) ?_
        refine (encode_any (x % 16) y (x / 16) q (by omega) hy8 (by omega) hq8 V30).mono ?_
        rintro e V31 ⟨Ae1, ce1, rfl, hs, hb⟩
        have B30 := Lib.hid hb
        have HEn1 := Lib.hid hs
        clear hb hs
        refine ⟨_, rfl, B30.out, ?_⟩
        simp only [ptr, Act.put, List.setIfInBounds_toArray, List.set_cons_zero, List.set_cons_succ]
        refine wpX_q (.string (strB ([x % 16 + x / 16 * 16, y, q]))) rfl (by kernel_rfl) (fun v hW => (xg_str (xs := [x % 16 + x / 16 * 16, y, q]) (HEn1.out.keep hW) (by decide) Tryd.underlying25 Tryd.underlying5 Tryd.underlying9 rfl rfl)) ?_
        simp only [ptr, Act.put, List.setIfInBounds_toArray, List.set_cons_zero, List.set_cons_succ]
        refine wpX_one rfl (by kernel_rfl) ?_
        refine hOp_call 28 Tryd.func28 (by kernel_rfl) (by kernel_rfl) _ _ #[.agg #[.int .i64 ((decR x y q).who), .int .i64 ((decR x y q).when_), .int .i64 ((decR x y q).kind), .int .i64 ((decR x y q).value)]] rfl (by kernel_rfl) ?_
        refine (rencode_any (x % 16) y (x / 16) q (by omega) hy8 (by omega) hq8 V31).mono ?_
        rintro e V32 ⟨Ae2, ce2, rfl, hs, hb⟩
        have B31 := Lib.hid hb
        have HEn2 := Lib.hid hs
        clear hb hs
        refine ⟨_, rfl, B31.out, ?_⟩
        simp only [ptr, Act.put, List.setIfInBounds_toArray, List.set_cons_zero, List.set_cons_succ]
        refine wpX_q (.string (strB ([x % 16 + x / 16 * 16, y, q]))) rfl (by kernel_rfl) (fun v hW => (xg_str (xs := [x % 16 + x / 16 * 16, y, q]) (HEn2.out.keep hW) (by decide) Tryd.underlying25 Tryd.underlying5 Tryd.underlying9 rfl rfl)) ?_
        simp only [ptr, Act.put, List.setIfInBounds_toArray, List.set_cons_zero, List.set_cons_succ]
        refine wpX_q (.bool true) rfl (by kernel_rfl) (fun v hW => (xo_eqS (strB ([x % 16 + x / 16 * 16, y, q])) Tryd.underlying9 rfl rfl rfl)) ?_
        simp only [ptr, Act.put, List.setIfInBounds_toArray, List.set_cons_zero, List.set_cons_succ]
        refine wpX_q (.bool true) rfl (by kernel_rfl) (fun v hW => rfl) ?_
        simp only [ptr, Act.put, List.setIfInBounds_toArray, List.set_cons_zero, List.set_cons_succ]
        refine wpX_q (.bool true) rfl (by kernel_rfl) (fun v hW => rfl) ?_
        simp only [ptr, Act.put, List.setIfInBounds_toArray, List.set_cons_zero, List.set_cons_succ]
        refine wpX_nil ?_
        go_wp2_with fail
        go_ret
        have C0_24 := Lib.hid (bel_step C0_23.out B23.out)
        have C0_25 := Lib.hid (bel_step C0_24.out B24.out)
        have C0_26 := Lib.hid (bel_step C0_25.out B25.out)
        have C0_27 := Lib.hid (bel_step C0_26.out B26.out)
        have C0_28 := Lib.hid (bel_step C0_27.out B27.out)
        have C0_29 := Lib.hid (bel_step C0_28.out B28.out)
        have C0_30 := Lib.hid (bel_step C0_29.out B29.out)
        have C0_31 := Lib.hid (bel_step C0_30.out B30.out)
        have C0_32 := Lib.hid (bel_step C0_31.out B31.out)
        exact ⟨rfl, C0_32.out⟩
    · go_upto_region 12 with fail
      refine wp_region_lit ?_
      refine wpList_run (by kernel_rfl) (.int .i64 z) V17 rfl ?_
      simp only [Act.put, List.setIfInBounds_toArray, List.set_cons_zero, List.set_cons_succ]
      refine wpList_run (by kernel_rfl) (.bool false) V17 (xo_gtrF .i64 z 6 (by omega) rfl rfl rfl) ?_
      simp only [Act.put, List.setIfInBounds_toArray, List.set_cons_zero, List.set_cons_succ]
      refine wpList_run (by kernel_rfl) (.bool false) V17 rfl ?_
      simp only [Act.put, List.setIfInBounds_toArray, List.set_cons_zero, List.set_cons_succ]
      refine wpList_skip (by kernel_rfl) ?_
      try simp only [Act.put, List.setIfInBounds_toArray, List.set_cons_zero, List.set_cons_succ]
      refine wpList_skip (by kernel_rfl) ?_
      try simp only [Act.put, List.setIfInBounds_toArray, List.set_cons_zero, List.set_cons_succ]
      refine wpList_run (by kernel_rfl) (.bool false) V17 rfl ?_
      simp only [Act.put, List.setIfInBounds_toArray, List.set_cons_zero, List.set_cons_succ]
      refine wpList_nil ?_
      obtain ⟨⟨xc, kc⟩, hc⟩ : ∃ t, colsA rs gs z = t := ⟨_, rfl⟩
      have HCA := Lib.hid hc
      clear hc
      obtain ⟨⟨xb, kb⟩, hb0⟩ : ∃ t, bitsA rs gs z = t := ⟨_, rfl⟩
      have HBA := Lib.hid hb0
      clear hb0
      obtain ⟨nc, hnc⟩ : ∃ n, xc.length = n := ⟨_, rfl⟩
      have HNC := Lib.hid hnc
      obtain ⟨nb, hnb⟩ : ∃ n, xb.length = n := ⟨_, rfl⟩
      have HNB := Lib.hid hnb
      clear hnc hnb
      go_upto_region 14 with fail
      refine wp_region_lit ?_
      have C4_12 := Lib.hid (bel_step C4_11.out B11.out)
      have C4_13 := Lib.hid (bel_step C4_12.out B12.out)
      have C4_14 := Lib.hid (bel_step C4_13.out B13.out)
      have C4_15 := Lib.hid (bel_step C4_14.out B14.out)
      have C4_16 := Lib.hid (bel_step C4_15.out B15.out)
      have C4_17 := Lib.hid (bel_step C4_16.out B16.out)
      refine wpList_run (by kernel_rfl) (.agg #[.slice A2 m c2, .slice E2 m d2]) V17 (xo_loadW b10 _ (heap_keep Fv3_10.out C4_17.out) Tryd.underlying30 rfl (by kernel_rfl) rfl rfl) ?_
      simp only [Act.put, List.setIfInBounds_toArray, List.set_cons_zero, List.set_cons_succ]
      refine wpList_run (by kernel_rfl) (.int .i64 z) V17 rfl ?_
      simp only [Act.put, List.setIfInBounds_toArray, List.set_cons_zero, List.set_cons_succ]
      have C3_11 := Lib.hid (bel_step C3_10.out B10.out)
      have C3_12 := Lib.hid (bel_step C3_11.out B11.out)
      have C3_13 := Lib.hid (bel_step C3_12.out B12.out)
      have C3_14 := Lib.hid (bel_step C3_13.out B13.out)
      have C3_15 := Lib.hid (bel_step C3_14.out B14.out)
      have C3_16 := Lib.hid (bel_step C3_15.out B15.out)
      have C3_17 := Lib.hid (bel_step C3_16.out B16.out)
      refine wpList_call (by kernel_rfl) 19 Tryd.func19 (by kernel_rfl) (by kernel_rfl) _ _ #[.agg #[.slice A2 m c2, .slice E2 m d2], .int .i64 z] rfl (by kernel_rfl) ?_
      refine (cols_all A2 m c2 rs E2 d2 gs z HST.out.ok xc kc HCA.out nc HNC.out V17 (HL.out.keep C3_17.out) (HG.out.keep C3_17.out)).mono ?_
      rintro e V18 ⟨Ac1, cc1, rfl, ⟨hsc1, hc0⟩, hb⟩
      have B17 := Lib.hid hb
      have HC1 := Lib.hid hc0
      clear hb hc0
      refine ⟨_, rfl, ?_⟩
      simp only [Act.put, List.setIfInBounds_toArray, List.set_cons_zero, List.set_cons_succ]
      refine wpList_run (by kernel_rfl) (.tuple #[.slice Ac1 nc cc1, .int .i64 (kc : Int)]) V18 rfl ?_
      simp only [Act.put, List.setIfInBounds_toArray, List.set_cons_zero, List.set_cons_succ]
      refine wpList_run (by kernel_rfl) (.slice Ac1 nc cc1) V18 rfl ?_
      simp only [Act.put, List.setIfInBounds_toArray, List.set_cons_zero, List.set_cons_succ]
      refine wpList_run (by kernel_rfl) (.int .i64 (kc : Int)) V18 rfl ?_
      simp only [Act.put, List.setIfInBounds_toArray, List.set_cons_zero, List.set_cons_succ]
      refine wpList_run (by kernel_rfl) (.slice Ac1 nc cc1) V18 rfl ?_
      simp only [Act.put, List.setIfInBounds_toArray, List.set_cons_zero, List.set_cons_succ]
      refine wpList_run (by kernel_rfl) (.int .i64 (kc : Int)) V18 rfl ?_
      simp only [Act.put, List.setIfInBounds_toArray, List.set_cons_zero, List.set_cons_succ]
      refine wpList_nil ?_
      go_upto_region 15 with fail
      refine wp_region_lit ?_
      have C4_18 := Lib.hid (bel_step C4_17.out B17.out)
      refine wpList_run (by kernel_rfl) (.agg #[.slice A2 m c2, .slice E2 m d2]) V18 (xo_loadW b10 _ (heap_keep Fv3_10.out C4_18.out) Tryd.underlying30 rfl (by kernel_rfl) rfl rfl) ?_
      simp only [Act.put, List.setIfInBounds_toArray, List.set_cons_zero, List.set_cons_succ]
      refine wpList_run (by kernel_rfl) (.int .i64 z) V18 rfl ?_
      simp only [Act.put, List.setIfInBounds_toArray, List.set_cons_zero, List.set_cons_succ]
      have C3_18 := Lib.hid (bel_step C3_17.out B17.out)
      refine wpList_call (by kernel_rfl) 20 Tryd.func20 (by kernel_rfl) (by kernel_rfl) _ _ #[.agg #[.slice A2 m c2, .slice E2 m d2], .int .i64 z] rfl (by kernel_rfl) ?_
      refine (rcols_all A2 m c2 rs E2 d2 gs z HST.out.ok xc kc HCA.out nc HNC.out V18 (HL.out.keep C3_18.out) (HG.out.keep C3_18.out)).mono ?_
      rintro e V19 ⟨Ac2, cc2, rfl, ⟨hsc2, hc0⟩, hb⟩
      have B18 := Lib.hid hb
      have HC2 := Lib.hid hc0
      clear hb hc0
      refine ⟨_, rfl, ?_⟩
      simp only [Act.put, List.setIfInBounds_toArray, List.set_cons_zero, List.set_cons_succ]
      refine wpList_run (by kernel_rfl) (.tuple #[.slice Ac2 nc cc2, .int .i64 (kc : Int)]) V19 rfl ?_
      simp only [Act.put, List.setIfInBounds_toArray, List.set_cons_zero, List.set_cons_succ]
      refine wpList_run (by kernel_rfl) (.slice Ac2 nc cc2) V19 rfl ?_
      simp only [Act.put, List.setIfInBounds_toArray, List.set_cons_zero, List.set_cons_succ]
      refine wpList_run (by kernel_rfl) (.int .i64 (kc : Int)) V19 rfl ?_
      simp only [Act.put, List.setIfInBounds_toArray, List.set_cons_zero, List.set_cons_succ]
      refine wpList_run (by kernel_rfl) (.slice Ac2 nc cc2) V19 rfl ?_
      simp only [Act.put, List.setIfInBounds_toArray, List.set_cons_zero, List.set_cons_succ]
      refine wpList_run (by kernel_rfl) (.int .i64 (kc : Int)) V19 rfl ?_
      simp only [Act.put, List.setIfInBounds_toArray, List.set_cons_zero, List.set_cons_succ]
      refine wpList_nil ?_
      go_upto_region 16 with fail
      refine wp_region_lit ?_
      have C4_19 := Lib.hid (bel_step C4_18.out B18.out)
      refine wpList_run (by kernel_rfl) (.agg #[.slice A2 m c2, .slice E2 m d2]) V19 (xo_loadW b10 _ (heap_keep Fv3_10.out C4_19.out) Tryd.underlying30 rfl (by kernel_rfl) rfl rfl) ?_
      simp only [Act.put, List.setIfInBounds_toArray, List.set_cons_zero, List.set_cons_succ]
      refine wpList_run (by kernel_rfl) (.int .i64 z) V19 rfl ?_
      simp only [Act.put, List.setIfInBounds_toArray, List.set_cons_zero, List.set_cons_succ]
      have C3_19 := Lib.hid (bel_step C3_18.out B18.out)
      have C0_16 := Lib.hid (bel_step C0_15.out B15.out)
      have C0_17 := Lib.hid (bel_step C0_16.out B16.out)
      have C0_18 := Lib.hid (bel_step C0_17.out B17.out)
      have C0_19 := Lib.hid (bel_step C0_18.out B18.out)
      refine wpList_call (by kernel_rfl) 21 Tryd.func21 (by kernel_rfl) (by kernel_rfl) _ _ #[.agg #[.slice A2 m c2, .slice E2 m d2], .int .i64 z] rfl (by kernel_rfl) ?_
      refine (bits_all A2 m c2 rs E2 d2 gs z HST.out.ok xb kb HBA.out nb HNB.out V19 (HL.out.keep C3_19.out) (HG.out.keep C3_19.out) (HW.out.keep C0_19.out)).mono ?_
      rintro e V20 ⟨Ab1, cb1, rfl, ⟨hsb1, hc0⟩, hb⟩
      have B19 := Lib.hid hb
      have HBt1 := Lib.hid hc0
      clear hb hc0
      refine ⟨_, rfl, ?_⟩
      simp only [Act.put, List.setIfInBounds_toArray, List.set_cons_zero, List.set_cons_succ]
      refine wpList_run (by kernel_rfl) (.tuple #[.slice Ab1 nb cb1, .int .i64 (kb : Int)]) V20 rfl ?_
      simp only [Act.put, List.setIfInBounds_toArray, List.set_cons_zero, List.set_cons_succ]
      refine wpList_run (by kernel_rfl) (.slice Ab1 nb cb1) V20 rfl ?_
      simp only [Act.put, List.setIfInBounds_toArray, List.set_cons_zero, List.set_cons_succ]
      refine wpList_run (by kernel_rfl) (.int .i64 (kb : Int)) V20 rfl ?_
      simp only [Act.put, List.setIfInBounds_toArray, List.set_cons_zero, List.set_cons_succ]
      refine wpList_run (by kernel_rfl) (.slice Ab1 nb cb1) V20 rfl ?_
      simp only [Act.put, List.setIfInBounds_toArray, List.set_cons_zero, List.set_cons_succ]
      refine wpList_run (by kernel_rfl) (.int .i64 (kb : Int)) V20 rfl ?_
      simp only [Act.put, List.setIfInBounds_toArray, List.set_cons_zero, List.set_cons_succ]
      refine wpList_nil ?_
      go_upto_region 17 with fail
      refine wp_region_lit ?_
      have C4_20 := Lib.hid (bel_step C4_19.out B19.out)
      refine wpList_run (by kernel_rfl) (.agg #[.slice A2 m c2, .slice E2 m d2]) V20 (xo_loadW b10 _ (heap_keep Fv3_10.out C4_20.out) Tryd.underlying30 rfl (by kernel_rfl) rfl rfl) ?_
      simp only [Act.put, List.setIfInBounds_toArray, List.set_cons_zero, List.set_cons_succ]
      refine wpList_run (by kernel_rfl) (.int .i64 z) V20 rfl ?_
      simp only [Act.put, List.setIfInBounds_toArray, List.set_cons_zero, List.set_cons_succ]
      have C3_20 := Lib.hid (bel_step C3_19.out B19.out)
      refine wpList_call (by kernel_rfl) 22 Tryd.func22 (by kernel_rfl) (by kernel_rfl) _ _ #[.agg #[.slice A2 m c2, .slice E2 m d2], .int .i64 z] rfl (by kernel_rfl) ?_
      refine (rbits_all A2 m c2 rs E2 d2 gs z HST.out.ok xb kb HBA.out nb HNB.out V20 (HL.out.keep C3_20.out) (HG.out.keep C3_20.out)).mono ?_
      rintro e V21 ⟨Ab2, cb2, rfl, ⟨hsb2, hc0⟩, hb⟩
      have B20 := Lib.hid hb
      have HBt2 := Lib.hid hc0
      clear hb hc0
      refine ⟨_, rfl, ?_⟩
      simp only [Act.put, List.setIfInBounds_toArray, List.set_cons_zero, List.set_cons_succ]
      refine wpList_run (by kernel_rfl) (.tuple #[.slice Ab2 nb cb2, .int .i64 (kb : Int)]) V21 rfl ?_
      simp only [Act.put, List.setIfInBounds_toArray, List.set_cons_zero, List.set_cons_succ]
      refine wpList_run (by kernel_rfl) (.slice Ab2 nb cb2) V21 rfl ?_
      simp only [Act.put, List.setIfInBounds_toArray, List.set_cons_zero, List.set_cons_succ]
      refine wpList_run (by kernel_rfl) (.int .i64 (kb : Int)) V21 rfl ?_
      simp only [Act.put, List.setIfInBounds_toArray, List.set_cons_zero, List.set_cons_succ]
      refine wpList_run (by kernel_rfl) (.slice Ab2 nb cb2) V21 rfl ?_
      simp only [Act.put, List.setIfInBounds_toArray, List.set_cons_zero, List.set_cons_succ]
      refine wpList_run (by kernel_rfl) (.int .i64 (kb : Int)) V21 rfl ?_
      simp only [Act.put, List.setIfInBounds_toArray, List.set_cons_zero, List.set_cons_succ]
      refine wpList_nil ?_
      go_upto_region 18 with fail
      refine wp_region_lit ?_
      refine wpList_run (by kernel_rfl) (.slice Ay ny cy) V21 rfl ?_
      simp only [Act.put, List.setIfInBounds_toArray, List.set_cons_zero, List.set_cons_succ]
      have C0_20 := Lib.hid (bel_step C0_19.out B19.out)
      have C0_21 := Lib.hid (bel_step C0_20.out B20.out)
      refine wpList_call (by kernel_rfl) 23 Tryd.func23 (by kernel_rfl) (by kernel_rfl) _ _ #[.slice Ay ny cy] rfl (by kernel_rfl) ?_
      refine (decode_all Ay ny cy xs HB8.out rd0 kd HDA.out V21 (HY.out.keep C0_21.out)).mono ?_
      rintro e V22 ⟨rfl, hb⟩
      have B21 := Lib.hid hb
      clear hb 
      refine ⟨_, rfl, ?_⟩
      simp only [Act.put, List.setIfInBounds_toArray, List.set_cons_zero, List.set_cons_succ]
      refine wpList_run (by kernel_rfl) (.tuple #[.agg #[.int .i64 rd0.who, .int .i64 rd0.when_, .int .i64 rd0.kind, .int .i64 rd0.value], .int .i64 (kd : Int)]) V22 rfl ?_
      simp only [Act.put, List.setIfInBounds_toArray, List.set_cons_zero, List.set_cons_succ]
      refine wpList_run (by kernel_rfl) (.agg #[.int .i64 rd0.who, .int .i64 rd0.when_, .int .i64 rd0.kind, .int .i64 rd0.value]) V22 rfl ?_
      simp only [Act.put, List.setIfInBounds_toArray, List.set_cons_zero, List.set_cons_succ]
      refine wpList_run (by kernel_rfl) (.int .i64 (kd : Int)) V22 rfl ?_
      simp only [Act.put, List.setIfInBounds_toArray, List.set_cons_zero, List.set_cons_succ]
      refine wpList_new #[.int .i64 0, .int .i64 0, .int .i64 0, .int .i64 0] 24 (by kernel_rfl) (xo_alloc #[.int .i64 0, .int .i64 0, .int .i64 0, .int .i64 0] (by kernel_rfl) rfl) ?_
      intro b28 V23 hge h0 hb
      have C1_16 := Lib.hid (bel_step C1_15.out B15.out)
      have C1_17 := Lib.hid (bel_step C1_16.out B16.out)
      have C1_18 := Lib.hid (bel_step C1_17.out B17.out)
      have C1_19 := Lib.hid (bel_step C1_18.out B18.out)
      have C1_20 := Lib.hid (bel_step C1_19.out B19.out)
      have C1_21 := Lib.hid (bel_step C1_20.out B20.out)
      have C1_22 := Lib.hid (bel_step C1_21.out B21.out)
      have N37_0 : Hid (w.heap.size ≠ b28) := Lib.hid (xp_lt0 (heap_keep Fv0_5.out C1_22.out) hge)
      have C4_21 := Lib.hid (bel_step C4_20.out B20.out)
      have C4_22 := Lib.hid (bel_step C4_21.out B21.out)
      have N38_1 : Hid (b10 ≠ b28) := Lib.hid (xp_lt0 (heap_keep Fv3_10.out C4_22.out) hge)
      have C6_14 := Lib.hid (bel_step C6_13.out B13.out)
      have C6_15 := Lib.hid (bel_step C6_14.out B14.out)
      have C6_16 := Lib.hid (bel_step C6_15.out B15.out)
      have C6_17 := Lib.hid (bel_step C6_16.out B16.out)
      have C6_18 := Lib.hid (bel_step C6_17.out B17.out)
      have C6_19 := Lib.hid (bel_step C6_18.out B18.out)
      have C6_20 := Lib.hid (bel_step C6_19.out B19.out)
      have C6_21 := Lib.hid (bel_step C6_20.out B20.out)
      have C6_22 := Lib.hid (bel_step C6_21.out B21.out)
      have N39_2 : Hid (b11 ≠ b28) := Lib.hid (xp_lt0 (heap_keep Fv10_11.out C6_22.out) hge)
      have C8_14 := Lib.hid (bel_step C8_13.out B13.out)
      have C8_15 := Lib.hid (bel_step C8_14.out B14.out)
      have C8_16 := Lib.hid (bel_step C8_15.out B15.out)
      have C8_17 := Lib.hid (bel_step C8_16.out B16.out)
      have C8_18 := Lib.hid (bel_step C8_17.out B17.out)
      have C8_19 := Lib.hid (bel_step C8_18.out B18.out)
      have C8_20 := Lib.hid (bel_step C8_19.out B19.out)
      have C8_21 := Lib.hid (bel_step C8_20.out B20.out)
      have C8_22 := Lib.hid (bel_step C8_21.out B21.out)
      have N40_3 : Hid (b13 ≠ b28) := Lib.hid (xp_lt0 (heap_keep Fv17_13.out C8_22.out) hge)
      have C10_15 := Lib.hid (bel_step C10_14.out B14.out)
      have C10_16 := Lib.hid (bel_step C10_15.out B15.out)
      have C10_17 := Lib.hid (bel_step C10_16.out B16.out)
      have C10_18 := Lib.hid (bel_step C10_17.out B17.out)
      have C10_19 := Lib.hid (bel_step C10_18.out B18.out)
      have C10_20 := Lib.hid (bel_step C10_19.out B19.out)
      have C10_21 := Lib.hid (bel_step C10_20.out B20.out)
      have C10_22 := Lib.hid (bel_step C10_21.out B21.out)
      have N41_4 : Hid (b15 ≠ b28) := Lib.hid (xp_lt0 (heap_keep Fv25_15.out C10_22.out) hge)
      have C12_15 := Lib.hid (bel_step C12_14.out B14.out)
      have C12_16 := Lib.hid (bel_step C12_15.out B15.out)
      have C12_17 := Lib.hid (bel_step C12_16.out B16.out)
      have C12_18 := Lib.hid (bel_step C12_17.out B17.out)
      have C12_19 := Lib.hid (bel_step C12_18.out B18.out)
      have C12_20 := Lib.hid (bel_step C12_19.out B19.out)
      have C12_21 := Lib.hid (bel_step C12_20.out B20.out)
      have C12_22 := Lib.hid (bel_step C12_21.out B21.out)
      have N42_5 : Hid (b17 ≠ b28) := Lib.hid (xp_lt0 (heap_keep Fv34_17.out C12_22.out) hge)
      have Ge43 : Hid (V22.heap.size ≤ b28) := Lib.hid hge
      have B22 := Lib.hid hb
      have Fv44_28 : Hid (V23.heap[b28]? = some (.cells #[.int .i64 0, .int .i64 0, .int .i64 0, .int .i64 0] 24 (0, 0))) := Lib.hid (h0)
      have Lt45 : Hid (b28 < V23.heap.size) := Lib.hid (xp_lt Fv44_28.out)
      clear hge h0 hb
      simp only [ptr, Act.put, List.setIfInBounds_toArray, List.set_cons_zero, List.set_cons_succ]
      refine wpList_storeW b28 #[.int .i64 0, .int .i64 0, .int .i64 0, .int .i64 0] #[.int .i64 rd0.who, .int .i64 rd0.when_, .int .i64 rd0.kind, .int .i64 rd0.value] 24 (by kernel_rfl) Fv44_28.out (xo_storeW b28 #[.int .i64 0, .int .i64 0, .int .i64 0, .int .i64 0] #[.int .i64 rd0.who, .int .i64 rd0.when_, .int .i64 rd0.kind, .int .i64 rd0.value] Fv44_28.out (by kernel_rfl) rfl (by simp [Value.oneCell']) rfl rfl rfl) ?_
      intro X23_46 h1 hfar hbel hsz
      have hbr := hbel _ _ Ge43.out B22.out
      clear B22
      have B22 := Lib.hid hbr
      clear hbr
      clear Fv44_28
      have Fv44_28 : Hid (X23_46.heap[b28]? = some (.cells #[.int .i64 rd0.who, .int .i64 rd0.when_, .int .i64 rd0.kind, .int .i64 rd0.value] 24 (0, 0))) := Lib.hid (h1)
      have HszX23_46 := Lib.hid hsz
      clear h1 hfar hbel hsz
      simp only [ptr, Act.put, List.setIfInBounds_toArray, List.set_cons_zero, List.set_cons_succ]
      refine wpList_run (by kernel_rfl) (.int .i64 (kd : Int)) X23_46 rfl ?_
      simp only [Act.put, List.setIfInBounds_toArray, List.set_cons_zero, List.set_cons_succ]
      refine wpList_nil ?_
      go_upto_region 19 with fail
      refine wp_region_lit ?_
      refine wpList_run (by kernel_rfl) (.slice Ay ny cy) X23_46 rfl ?_
      simp only [Act.put, List.setIfInBounds_toArray, List.set_cons_zero, List.set_cons_succ]
      have C0_22 := Lib.hid (bel_step C0_21.out B21.out)
      have C0_23 := Lib.hid (bel_step C0_22.out B22.out)
      refine wpList_call (by kernel_rfl) 24 Tryd.func24 (by kernel_rfl) (by kernel_rfl) _ _ #[.slice Ay ny cy] rfl (by kernel_rfl) ?_
      refine (rdecode_all Ay ny cy xs HB8.out rd0 kd HDA.out X23_46 (HY.out.keep C0_23.out)).mono ?_
      rintro e V24 ⟨rfl, hb⟩
      have B23 := Lib.hid hb
      clear hb 
      refine ⟨_, rfl, ?_⟩
      simp only [Act.put, List.setIfInBounds_toArray, List.set_cons_zero, List.set_cons_succ]
      refine wpList_run (by kernel_rfl) (.tuple #[.agg #[.int .i64 rd0.who, .int .i64 rd0.when_, .int .i64 rd0.kind, .int .i64 rd0.value], .int .i64 (kd : Int)]) V24 rfl ?_
      simp only [Act.put, List.setIfInBounds_toArray, List.set_cons_zero, List.set_cons_succ]
      refine wpList_run (by kernel_rfl) (.agg #[.int .i64 rd0.who, .int .i64 rd0.when_, .int .i64 rd0.kind, .int .i64 rd0.value]) V24 rfl ?_
      simp only [Act.put, List.setIfInBounds_toArray, List.set_cons_zero, List.set_cons_succ]
      refine wpList_run (by kernel_rfl) (.int .i64 (kd : Int)) V24 rfl ?_
      simp only [Act.put, List.setIfInBounds_toArray, List.set_cons_zero, List.set_cons_succ]
      refine wpList_new #[.int .i64 0, .int .i64 0, .int .i64 0, .int .i64 0] 24 (by kernel_rfl) (xo_alloc #[.int .i64 0, .int .i64 0, .int .i64 0, .int .i64 0] (by kernel_rfl) rfl) ?_
      intro b30 V25 hge h0 hb
      have C1_23 := Lib.hid (bel_step C1_22.out B22.out)
      have C1_24 := Lib.hid (bel_step C1_23.out B23.out)
      have N47_0 : Hid (w.heap.size ≠ b30) := Lib.hid (xp_lt0 (heap_keep Fv0_5.out C1_24.out) hge)
      have C4_23 := Lib.hid (bel_step C4_22.out B22.out)
      have C4_24 := Lib.hid (bel_step C4_23.out B23.out)
      have N48_1 : Hid (b10 ≠ b30) := Lib.hid (xp_lt0 (heap_keep Fv3_10.out C4_24.out) hge)
      have C6_23 := Lib.hid (bel_step C6_22.out B22.out)
      have C6_24 := Lib.hid (bel_step C6_23.out B23.out)
      have N49_2 : Hid (b11 ≠ b30) := Lib.hid (xp_lt0 (heap_keep Fv10_11.out C6_24.out) hge)
      have C8_23 := Lib.hid (bel_step C8_22.out B22.out)
      have C8_24 := Lib.hid (bel_step C8_23.out B23.out)
      have N50_3 : Hid (b13 ≠ b30) := Lib.hid (xp_lt0 (heap_keep Fv17_13.out C8_24.out) hge)
      have C10_23 := Lib.hid (bel_step C10_22.out B22.out)
      have C10_24 := Lib.hid (bel_step C10_23.out B23.out)
      have N51_4 : Hid (b15 ≠ b30) := Lib.hid (xp_lt0 (heap_keep Fv25_15.out C10_24.out) hge)
      have C12_23 := Lib.hid (bel_step C12_22.out B22.out)
      have C12_24 := Lib.hid (bel_step C12_23.out B23.out)
      have N52_5 : Hid (b17 ≠ b30) := Lib.hid (xp_lt0 (heap_keep Fv34_17.out C12_24.out) hge)
      have N53_6 : Hid (b28 ≠ b30) := Lib.hid (xp_lt0 (heap_keep Fv44_28.out B23.out) hge)
      have Ge54 : Hid (V24.heap.size ≤ b30) := Lib.hid hge
      have B24 := Lib.hid hb
      have Fv55_30 : Hid (V25.heap[b30]? = some (.cells #[.int .i64 0, .int .i64 0, .int .i64 0, .int .i64 0] 24 (0, 0))) := Lib.hid (h0)
      have Lt56 : Hid (b30 < V25.heap.size) := Lib.hid (xp_lt Fv55_30.out)
      clear hge h0 hb
      simp only [ptr, Act.put, List.setIfInBounds_toArray, List.set_cons_zero, List.set_cons_succ]
      refine wpList_storeW b30 #[.int .i64 0, .int .i64 0, .int .i64 0, .int .i64 0] #[.int .i64 rd0.who, .int .i64 rd0.when_, .int .i64 rd0.kind, .int .i64 rd0.value] 24 (by kernel_rfl) Fv55_30.out (xo_storeW b30 #[.int .i64 0, .int .i64 0, .int .i64 0, .int .i64 0] #[.int .i64 rd0.who, .int .i64 rd0.when_, .int .i64 rd0.kind, .int .i64 rd0.value] Fv55_30.out (by kernel_rfl) rfl (by simp [Value.oneCell']) rfl rfl rfl) ?_
      intro X25_57 h1 hfar hbel hsz
      have hbr := hbel _ _ Ge54.out B24.out
      clear B24
      have B24 := Lib.hid hbr
      clear hbr
      clear Fv55_30
      have Fv55_30 : Hid (X25_57.heap[b30]? = some (.cells #[.int .i64 rd0.who, .int .i64 rd0.when_, .int .i64 rd0.kind, .int .i64 rd0.value] 24 (0, 0))) := Lib.hid (h1)
      have HszX25_57 := Lib.hid hsz
      clear h1 hfar hbel hsz
      simp only [ptr, Act.put, List.setIfInBounds_toArray, List.set_cons_zero, List.set_cons_succ]
      refine wpList_run (by kernel_rfl) (.int .i64 (kd : Int)) X25_57 rfl ?_
      simp only [Act.put, List.setIfInBounds_toArray, List.set_cons_zero, List.set_cons_succ]
      refine wpList_nil ?_
      go_upto_region 20 with fail
      refine wp_region_lit ?_
      refine wpList_run (by kernel_rfl) (.pointer (some ⟨w.heap.size, 0, none⟩)) X25_57 (xo_fld0 0 w.heap.size 0 (by kernel_rfl) rfl rfl) ?_
      simp only [Act.put, List.setIfInBounds_toArray, List.set_cons_zero, List.set_cons_succ]
      have C1_25 := Lib.hid (bel_step C1_24.out B24.out)
      refine wpList_run (by kernel_rfl) (.int .i64 r.who) X25_57 (xo_load1 ⟨w.heap.size, 0, none⟩ _ (cells_at (heap_keep Fv0_5.out C1_25.out) 0 rfl) Tryd.underlying3 rfl rfl rfl) ?_
      simp only [Act.put, List.setIfInBounds_toArray, List.set_cons_zero, List.set_cons_succ]
      refine wpList_run (by kernel_rfl) (.int .u8 (x : Int)) X25_57 (xo_cvt .i64 .u8 r.who (x : Int) (by rw [IntKind.wrap_u8]; omega) Tryd.underlying5 Tryd.underlying3 rfl rfl) ?_
      simp only [Act.put, List.setIfInBounds_toArray, List.set_cons_zero, List.set_cons_succ]
      refine wpList_run (by kernel_rfl) (.pointer (some ⟨w.heap.size, 1, none⟩)) X25_57 (xo_fld0 1 w.heap.size 1 (by kernel_rfl) rfl rfl) ?_
      simp only [Act.put, List.setIfInBounds_toArray, List.set_cons_zero, List.set_cons_succ]
      refine wpList_run (by kernel_rfl) (.int .i64 r.when_) X25_57 (xo_load1 ⟨w.heap.size, 1, none⟩ _ (cells_at (heap_keep Fv0_5.out C1_25.out) 1 rfl) Tryd.underlying3 rfl rfl rfl) ?_
      simp only [Act.put, List.setIfInBounds_toArray, List.set_cons_zero, List.set_cons_succ]
      refine wpList_run (by kernel_rfl) (.int .u8 (y : Int)) X25_57 (xo_cvt .i64 .u8 r.when_ (y : Int) (by rw [IntKind.wrap_u8]; omega) Tryd.underlying5 Tryd.underlying3 rfl rfl) ?_
      simp only [Act.put, List.setIfInBounds_toArray, List.set_cons_zero, List.set_cons_succ]
      refine wpList_run (by kernel_rfl) (.pointer (some ⟨w.heap.size, 3, none⟩)) X25_57 (xo_fld0 3 w.heap.size 3 (by kernel_rfl) rfl rfl) ?_
      simp only [Act.put, List.setIfInBounds_toArray, List.set_cons_zero, List.set_cons_succ]
      refine wpList_run (by kernel_rfl) (.int .i64 r.value) X25_57 (xo_load1 ⟨w.heap.size, 3, none⟩ _ (cells_at (heap_keep Fv0_5.out C1_25.out) 3 rfl) Tryd.underlying3 rfl rfl rfl) ?_
      simp only [Act.put, List.setIfInBounds_toArray, List.set_cons_zero, List.set_cons_succ]
      refine wpList_run (by kernel_rfl) (.int .u8 (q : Int)) X25_57 (xo_cvt .i64 .u8 r.value (q : Int) (by rw [IntKind.wrap_u8]; omega) Tryd.underlying5 Tryd.underlying3 rfl rfl) ?_
      simp only [Act.put, List.setIfInBounds_toArray, List.set_cons_zero, List.set_cons_succ]
      refine wpList_run (by kernel_rfl) (.agg #[.int .u8 (x : Int), .int .u8 (y : Int), .int .u8 (q : Int)]) X25_57 (by unfold execOp; go_simp) ?_
      simp only [Act.put, List.setIfInBounds_toArray, List.set_cons_zero, List.set_cons_succ]
      refine wpList_call (by kernel_rfl) 25 Tryd.func25 (by kernel_rfl) (by kernel_rfl) _ _ #[.agg #[.int .u8 (x : Int), .int .u8 (y : Int), .int .u8 (q : Int)]] rfl (by kernel_rfl) ?_
      refine (rreading_any x y q hx8 hy8 hq8 X25_57).mono ?_
      rintro e V26 ⟨rfl, hb⟩
      have B25 := Lib.hid hb
      clear hb 
      refine ⟨_, rfl, ?_⟩
      simp only [Act.put, List.setIfInBounds_toArray, List.set_cons_zero, List.set_cons_succ]
      refine wpList_new #[.int .i64 0, .int .i64 0, .int .i64 0, .int .i64 0] 24 (by kernel_rfl) (xo_alloc #[.int .i64 0, .int .i64 0, .int .i64 0, .int .i64 0] (by kernel_rfl) rfl) ?_
      intro b32 V27 hge h0 hb
      have C1_26 := Lib.hid (bel_step C1_25.out B25.out)
      have N58_0 : Hid (w.heap.size ≠ b32) := Lib.hid (xp_lt0 (heap_keep Fv0_5.out C1_26.out) hge)
      have C4_25 := Lib.hid (bel_step C4_24.out B24.out)
      have C4_26 := Lib.hid (bel_step C4_25.out B25.out)
      have N59_1 : Hid (b10 ≠ b32) := Lib.hid (xp_lt0 (heap_keep Fv3_10.out C4_26.out) hge)
      have C6_25 := Lib.hid (bel_step C6_24.out B24.out)
      have C6_26 := Lib.hid (bel_step C6_25.out B25.out)
      have N60_2 : Hid (b11 ≠ b32) := Lib.hid (xp_lt0 (heap_keep Fv10_11.out C6_26.out) hge)
      have C8_25 := Lib.hid (bel_step C8_24.out B24.out)
      have C8_26 := Lib.hid (bel_step C8_25.out B25.out)
      have N61_3 : Hid (b13 ≠ b32) := Lib.hid (xp_lt0 (heap_keep Fv17_13.out C8_26.out) hge)
      have C10_25 := Lib.hid (bel_step C10_24.out B24.out)
      have C10_26 := Lib.hid (bel_step C10_25.out B25.out)
      have N62_4 : Hid (b15 ≠ b32) := Lib.hid (xp_lt0 (heap_keep Fv25_15.out C10_26.out) hge)
      have C12_25 := Lib.hid (bel_step C12_24.out B24.out)
      have C12_26 := Lib.hid (bel_step C12_25.out B25.out)
      have N63_5 : Hid (b17 ≠ b32) := Lib.hid (xp_lt0 (heap_keep Fv34_17.out C12_26.out) hge)
      have C23_25 := Lib.hid (bel_step B23.out B24.out)
      have C23_26 := Lib.hid (bel_step C23_25.out B25.out)
      have N64_6 : Hid (b28 ≠ b32) := Lib.hid (xp_lt0 (heap_keep Fv44_28.out C23_26.out) hge)
      have N65_7 : Hid (b30 ≠ b32) := Lib.hid (xp_lt0 (heap_keep Fv55_30.out B25.out) hge)
      have Ge66 : Hid (V26.heap.size ≤ b32) := Lib.hid hge
      have B26 := Lib.hid hb
      have Fv67_32 : Hid (V27.heap[b32]? = some (.cells #[.int .i64 0, .int .i64 0, .int .i64 0, .int .i64 0] 24 (0, 0))) := Lib.hid (h0)
      have Lt68 : Hid (b32 < V27.heap.size) := Lib.hid (xp_lt Fv67_32.out)
      clear hge h0 hb
      simp only [ptr, Act.put, List.setIfInBounds_toArray, List.set_cons_zero, List.set_cons_succ]
      refine wpList_storeW b32 #[.int .i64 0, .int .i64 0, .int .i64 0, .int .i64 0] #[.int .i64 ((decR x y q).who), .int .i64 ((decR x y q).when_), .int .i64 ((decR x y q).kind), .int .i64 ((decR x y q).value)] 24 (by kernel_rfl) Fv67_32.out (xo_storeW b32 #[.int .i64 0, .int .i64 0, .int .i64 0, .int .i64 0] #[.int .i64 ((decR x y q).who), .int .i64 ((decR x y q).when_), .int .i64 ((decR x y q).kind), .int .i64 ((decR x y q).value)] Fv67_32.out (by kernel_rfl) rfl (by simp [Value.oneCell']) rfl rfl rfl) ?_
      intro X27_69 h1 hfar hbel hsz
      have hbr := hbel _ _ Ge66.out B26.out
      clear B26
      have B26 := Lib.hid hbr
      clear hbr
      clear Fv67_32
      have Fv67_32 : Hid (X27_69.heap[b32]? = some (.cells #[.int .i64 ((decR x y q).who), .int .i64 ((decR x y q).when_), .int .i64 ((decR x y q).kind), .int .i64 ((decR x y q).value)] 24 (0, 0))) := Lib.hid (h1)
      have HszX27_69 := Lib.hid hsz
      clear h1 hfar hbel hsz
      simp only [ptr, Act.put, List.setIfInBounds_toArray, List.set_cons_zero, List.set_cons_succ]
      refine wpList_nil ?_
      go_upto_region 21 with fail
      try simp only [List.append_eq, List.cons_append, List.nil_append]
      refine wp_ordX (.q 0 (.q 1 (.q 2 (.q 3 (.one 4 (.q 5 (.q 6 (.q 7 (.q 8 (.q 9 (.q 10 (.q 11 (.q 12 (.q 13 (.one 14 (.q 15 (.q 16 (.q 17 (.q 18 (.q 19 (.q 20 (.q 21 (.q 22 (.q 23 (.q 24 (.q 25 (.q 26 (.q 27 (.q 28 (.q 29 (.q 30 (.q 31 (.q 32 (.q 35 (.one 33 (.q 34 (.one 36 (.q 37 (.q 38 (.q 39 (.q 40 .nil))))))))))))))))))))))))))))))))))))))))) (by kernel_rfl) (by kernel_rfl) (fun _ _ dt _ _ h => by first | exact h.elim | (cases dt <;> exact h)) (by kernel_rfl) (by kernel_rfl) (fun V28 hb => ?_)
      have B27 := Lib.hid hb
      clear hb
      refine wpX_q (.bool true) rfl (by kernel_rfl) (fun v hW => rfl) ?_
      simp only [ptr, Act.put, List.setIfInBounds_toArray, List.set_cons_zero, List.set_cons_succ]
      refine wpX_q (.bool true) rfl (by kernel_rfl) (fun v hW => rfl) ?_
      simp only [ptr, Act.put, List.setIfInBounds_toArray, List.set_cons_zero, List.set_cons_succ]
      refine wpX_q (.slice Ac1 nc cc1) rfl (by kernel_rfl) (fun v hW => rfl) ?_
      simp only [ptr, Act.put, List.setIfInBounds_toArray, List.set_cons_zero, List.set_cons_succ]
      refine wpX_q (.slice Ac2 nc cc2) rfl (by kernel_rfl) (fun v hW => rfl) ?_
      simp only [ptr, Act.put, List.setIfInBounds_toArray, List.set_cons_zero, List.set_cons_succ]
      refine wpX_one rfl (by kernel_rfl) ?_
      have C18_20 := Lib.hid (bel_step B18.out B19.out)
      have C18_21 := Lib.hid (bel_step C18_20.out B20.out)
      have C18_22 := Lib.hid (bel_step C18_21.out B21.out)
      have C18_23 := Lib.hid (bel_step C18_22.out B22.out)
      have C18_24 := Lib.hid (bel_step C18_23.out B23.out)
      have C18_25 := Lib.hid (bel_step C18_24.out B24.out)
      have C18_26 := Lib.hid (bel_step C18_25.out B25.out)
      have C18_27 := Lib.hid (bel_step C18_26.out B26.out)
      have C18_28 := Lib.hid (bel_step C18_27.out B27.out)
      have C19_21 := Lib.hid (bel_step B19.out B20.out)
      have C19_22 := Lib.hid (bel_step C19_21.out B21.out)
      have C19_23 := Lib.hid (bel_step C19_22.out B22.out)
      have C19_24 := Lib.hid (bel_step C19_23.out B23.out)
      have C19_25 := Lib.hid (bel_step C19_24.out B24.out)
      have C19_26 := Lib.hid (bel_step C19_25.out B25.out)
      have C19_27 := Lib.hid (bel_step C19_26.out B26.out)
      have C19_28 := Lib.hid (bel_step C19_27.out B27.out)
      refine hOp_call 26 Tryd.func26 (by kernel_rfl) (by kernel_rfl) _ _ #[.slice Ac1 nc cc1, .slice Ac2 nc cc2] rfl (by kernel_rfl) ?_
      refine (sameCols_yes Ac1 nc cc1 hsc1 Ac2 cc2 hsc2 xc V28 (HC1.out.keep C18_28.out) (HC2.out.keep C19_28.out)).mono ?_
      rintro e V29 ⟨rfl, hb⟩
      have B28 := Lib.hid hb
      clear hb 
      refine ⟨_, rfl, B28.out, ?_⟩
      simp only [ptr, Act.put, List.setIfInBounds_toArray, List.set_cons_zero, List.set_cons_succ]
      refine wpX_q (.bool true) rfl (by kernel_rfl) (fun v hW => rfl) ?_
      simp only [ptr, Act.put, List.setIfInBounds_toArray, List.set_cons_zero, List.set_cons_succ]
      refine wpX_q (.bool true) rfl (by kernel_rfl) (fun v hW => rfl) ?_
      simp only [ptr, Act.put, List.setIfInBounds_toArray, List.set_cons_zero, List.set_cons_succ]
      refine wpX_q (.int .i64 (kc : Int)) rfl (by kernel_rfl) (fun v hW => rfl) ?_
      simp only [ptr, Act.put, List.setIfInBounds_toArray, List.set_cons_zero, List.set_cons_succ]
      refine wpX_q (.int .i64 (kc : Int)) rfl (by kernel_rfl) (fun v hW => rfl) ?_
      simp only [ptr, Act.put, List.setIfInBounds_toArray, List.set_cons_zero, List.set_cons_succ]
      refine wpX_q (.bool true) rfl (by kernel_rfl) (fun v hW => (xo_eqlT .i64 (kc : Int) (kc : Int) (by omega) rfl rfl rfl)) ?_
      simp only [ptr, Act.put, List.setIfInBounds_toArray, List.set_cons_zero, List.set_cons_succ]
      refine wpX_q (.bool true) rfl (by kernel_rfl) (fun v hW => rfl) ?_
      simp only [ptr, Act.put, List.setIfInBounds_toArray, List.set_cons_zero, List.set_cons_succ]
      refine wpX_q (.bool true) rfl (by kernel_rfl) (fun v hW => rfl) ?_
      simp only [ptr, Act.put, List.setIfInBounds_toArray, List.set_cons_zero, List.set_cons_succ]
      refine wpX_q (.slice Ab1 nb cb1) rfl (by kernel_rfl) (fun v hW => rfl) ?_
      simp only [ptr, Act.put, List.setIfInBounds_toArray, List.set_cons_zero, List.set_cons_succ]
      refine wpX_q (.slice Ab2 nb cb2) rfl (by kernel_rfl) (fun v hW => rfl) ?_
      simp only [ptr, Act.put, List.setIfInBounds_toArray, List.set_cons_zero, List.set_cons_succ]
      refine wpX_one rfl (by kernel_rfl) ?_
      have C20_22 := Lib.hid (bel_step B20.out B21.out)
      have C20_23 := Lib.hid (bel_step C20_22.out B22.out)
      have C20_24 := Lib.hid (bel_step C20_23.out B23.out)
      have C20_25 := Lib.hid (bel_step C20_24.out B24.out)
      have C20_26 := Lib.hid (bel_step C20_25.out B25.out)
      have C20_27 := Lib.hid (bel_step C20_26.out B26.out)
      have C20_28 := Lib.hid (bel_step C20_27.out B27.out)
      have C20_29 := Lib.hid (bel_step C20_28.out B28.out)
      have C21_23 := Lib.hid (bel_step B21.out B22.out)
      have C21_24 := Lib.hid (bel_step C21_23.out B23.out)
      have C21_25 := Lib.hid (bel_step C21_24.out B24.out)
      have C21_26 := Lib.hid (bel_step C21_25.out B25.out)
      have C21_27 := Lib.hid (bel_step C21_26.out B26.out)
      have C21_28 := Lib.hid (bel_step C21_27.out B27.out)
      have C21_29 := Lib.hid (bel_step C21_28.out B28.out)
      refine hOp_call 26 Tryd.func26 (by kernel_rfl) (by kernel_rfl) _ _ #[.slice Ab1 nb cb1, .slice Ab2 nb cb2] rfl (by kernel_rfl) ?_
      refine (sameCols_yes Ab1 nb cb1 hsb1 Ab2 cb2 hsb2 xb V29 (HBt1.out.keep C20_29.out) (HBt2.out.keep C21_29.out)).mono ?_
      rintro e V30 ⟨rfl, hb⟩
      have B29 := Lib.hid hb
      clear hb 
      refine ⟨_, rfl, B29.out, ?_⟩
      simp only [ptr, Act.put, List.setIfInBounds_toArray, List.set_cons_zero, List.set_cons_succ]
      refine wpX_q (.bool true) rfl (by kernel_rfl) (fun v hW => rfl) ?_
      simp only [ptr, Act.put, List.setIfInBounds_toArray, List.set_cons_zero, List.set_cons_succ]
      refine wpX_q (.bool true) rfl (by kernel_rfl) (fun v hW => rfl) ?_
      simp only [ptr, Act.put, List.setIfInBounds_toArray, List.set_cons_zero, List.set_cons_succ]
      refine wpX_q (.int .i64 (kb : Int)) rfl (by kernel_rfl) (fun v hW => rfl) ?_
      simp only [ptr, Act.put, List.setIfInBounds_toArray, List.set_cons_zero, List.set_cons_succ]
      refine wpX_q (.int .i64 (kb : Int)) rfl (by kernel_rfl) (fun v hW => rfl) ?_
      simp only [ptr, Act.put, List.setIfInBounds_toArray, List.set_cons_zero, List.set_cons_succ]
      refine wpX_q (.bool true) rfl (by kernel_rfl) (fun v hW => (xo_eqlT .i64 (kb : Int) (kb : Int) (by omega) rfl rfl rfl)) ?_
      simp only [ptr, Act.put, List.setIfInBounds_toArray, List.set_cons_zero, List.set_cons_succ]
      refine wpX_q (.bool true) rfl (by kernel_rfl) (fun v hW => rfl) ?_
      simp only [ptr, Act.put, List.setIfInBounds_toArray, List.set_cons_zero, List.set_cons_succ]
      refine wpX_q (.bool true) rfl (by kernel_rfl) (fun v hW => rfl) ?_
      simp only [ptr, Act.put, List.setIfInBounds_toArray, List.set_cons_zero, List.set_cons_succ]
      have C23_27 := Lib.hid (bel_step C23_26.out B26.out)
      have C23_28 := Lib.hid (bel_step C23_27.out B27.out)
      have C23_29 := Lib.hid (bel_step C23_28.out B28.out)
      have C23_30 := Lib.hid (bel_step C23_29.out B29.out)
      refine wpX_q (.agg #[.int .i64 rd0.who, .int .i64 rd0.when_, .int .i64 rd0.kind, .int .i64 rd0.value]) rfl (by kernel_rfl) (fun v hW => (xo_loadW b28 _ (heap_keep (heap_keep Fv44_28.out C23_30.out) hW) Tryd.underlying24 rfl (by kernel_rfl) rfl rfl)) ?_
      simp only [ptr, Act.put, List.setIfInBounds_toArray, List.set_cons_zero, List.set_cons_succ]
      have C25_27 := Lib.hid (bel_step B25.out B26.out)
      have C25_28 := Lib.hid (bel_step C25_27.out B27.out)
      have C25_29 := Lib.hid (bel_step C25_28.out B28.out)
      have C25_30 := Lib.hid (bel_step C25_29.out B29.out)
      refine wpX_q (.agg #[.int .i64 rd0.who, .int .i64 rd0.when_, .int .i64 rd0.kind, .int .i64 rd0.value]) rfl (by kernel_rfl) (fun v hW => (xo_loadW b30 _ (heap_keep (heap_keep Fv55_30.out C25_30.out) hW) Tryd.underlying24 rfl (by kernel_rfl) rfl rfl)) ?_
      simp only [ptr, Act.put, List.setIfInBounds_toArray, List.set_cons_zero, List.set_cons_succ]
      refine wpX_q (.bool true) rfl (by kernel_rfl) (fun v hW => (exec_eqRd (Rd.mk rd0.who rd0.when_ rd0.kind rd0.value) rfl rfl rfl)) ?_
      simp only [ptr, Act.put, List.setIfInBounds_toArray, List.set_cons_zero, List.set_cons_succ]
      refine wpX_q (.bool true) rfl (by kernel_rfl) (fun v hW => rfl) ?_
      simp only [ptr, Act.put, List.setIfInBounds_toArray, List.set_cons_zero, List.set_cons_succ]
      refine wpX_q (.bool true) rfl (by kernel_rfl) (fun v hW => rfl) ?_
      simp only [ptr, Act.put, List.setIfInBounds_toArray, List.set_cons_zero, List.set_cons_succ]
      refine wpX_q (.int .i64 (kd : Int)) rfl (by kernel_rfl) (fun v hW => rfl) ?_
      simp only [ptr, Act.put, List.setIfInBounds_toArray, List.set_cons_zero, List.set_cons_succ]
      refine wpX_q (.int .i64 (kd : Int)) rfl (by kernel_rfl) (fun v hW => rfl) ?_
      simp only [ptr, Act.put, List.setIfInBounds_toArray, List.set_cons_zero, List.set_cons_succ]
      refine wpX_q (.bool true) rfl (by kernel_rfl) (fun v hW => (xo_eqlT .i64 (kd : Int) (kd : Int) (by omega) rfl rfl rfl)) ?_
      simp only [ptr, Act.put, List.setIfInBounds_toArray, List.set_cons_zero, List.set_cons_succ]
      refine wpX_q (.bool true) rfl (by kernel_rfl) (fun v hW => rfl) ?_
      simp only [ptr, Act.put, List.setIfInBounds_toArray, List.set_cons_zero, List.set_cons_succ]
      refine wpX_q (.bool true) rfl (by kernel_rfl) (fun v hW => rfl) ?_
      simp only [ptr, Act.put, List.setIfInBounds_toArray, List.set_cons_zero, List.set_cons_succ]
      have C27_29 := Lib.hid (bel_step B27.out B28.out)
      have C27_30 := Lib.hid (bel_step C27_29.out B29.out)
      refine wpX_q (.agg #[.int .i64 ((decR x y q).who), .int .i64 ((decR x y q).when_), .int .i64 ((decR x y q).kind), .int .i64 ((decR x y q).value)]) rfl (by kernel_rfl) (fun v hW => (xo_loadW b32 _ (heap_keep (heap_keep Fv67_32.out C27_30.out) hW) Tryd.underlying24 rfl (by kernel_rfl) rfl rfl)) ?_
      simp only [ptr, Act.put, List.setIfInBounds_toArray, List.set_cons_zero, List.set_cons_succ]
      refine wpX_q (.agg #[.int .i64 ((decR x y q).who), .int .i64 ((decR x y q).when_), .int .i64 ((decR x y q).kind), .int .i64 ((decR x y q).value)]) rfl (by kernel_rfl) (fun v hW => (xo_loadW b32 _ (heap_keep (heap_keep Fv67_32.out C27_30.out) hW) Tryd.underlying24 rfl (by kernel_rfl) rfl rfl)) ?_
      simp only [ptr, Act.put, List.setIfInBounds_toArray, List.set_cons_zero, List.set_cons_succ]
      refine wpX_one rfl (by kernel_rfl) ?_
      refine hOp_call 27 Tryd.func27 (by kernel_rfl) (by kernel_rfl) _ _ #[.agg #[.int .i64 ((decR x y q).who), .int .i64 ((decR x y q).when_), .int .i64 ((decR x y q).kind), .int .i64 ((decR x y q).value)]] rfl (by kernel_rfl) ?_
      refine (encode_any (x % 16) y (x / 16) q (by omega) hy8 (by omega) hq8 V30).mono ?_
      rintro e V31 ⟨Ae1, ce1, rfl, hs, hb⟩
      have B30 := Lib.hid hb
      have HEn1 := Lib.hid hs
      clear hb hs
      refine ⟨_, rfl, B30.out, ?_⟩
      simp only [ptr, Act.put, List.setIfInBounds_toArray, List.set_cons_zero, List.set_cons_succ]
      refine wpX_q (.string (strB ([x % 16 + x / 16 * 16, y, q]))) rfl (by kernel_rfl) (fun v hW => (xg_str (xs := [x % 16 + x / 16 * 16, y, q]) (HEn1.out.keep hW) (by decide) Tryd.underlying25 Tryd.underlying5 Tryd.underlying9 rfl rfl)) ?_
      simp only [ptr, Act.put, List.setIfInBounds_toArray, List.set_cons_zero, List.set_cons_succ]
      refine wpX_one rfl (by kernel_rfl) ?_
      refine hOp_call 28 Tryd.func28 (by kernel_rfl) (by kernel_rfl) _ _ #[.agg #[.int .i64 ((decR x y q).who), .int .i64 ((decR x y q).when_), .int .i64 ((decR x y q).kind), .int .i64 ((decR x y q).value)]] rfl (by kernel_rfl) ?_
      refine (rencode_any (x % 16) y (x / 16) q (by omega) hy8 (by omega) hq8 V31).mono ?_
      rintro e V32 ⟨Ae2, ce2, rfl, hs, hb⟩
      have B31 := Lib.hid hb
      have HEn2 := Lib.hid hs
      clear hb hs
      refine ⟨_, rfl, B31.out, ?_⟩
      simp only [ptr, Act.put, List.setIfInBounds_toArray, List.set_cons_zero, List.set_cons_succ]
      refine wpX_q (.string (strB ([x % 16 + x / 16 * 16, y, q]))) rfl (by kernel_rfl) (fun v hW => (xg_str (xs := [x % 16 + x / 16 * 16, y, q]) (HEn2.out.keep hW) (by decide) Tryd.underlying25 Tryd.underlying5 Tryd.underlying9 rfl rfl)) ?_
      simp only [ptr, Act.put, List.setIfInBounds_toArray, List.set_cons_zero, List.set_cons_succ]
      refine wpX_q (.bool true) rfl (by kernel_rfl) (fun v hW => (xo_eqS (strB ([x % 16 + x / 16 * 16, y, q])) Tryd.underlying9 rfl rfl rfl)) ?_
      simp only [ptr, Act.put, List.setIfInBounds_toArray, List.set_cons_zero, List.set_cons_succ]
      refine wpX_q (.bool true) rfl (by kernel_rfl) (fun v hW => rfl) ?_
      simp only [ptr, Act.put, List.setIfInBounds_toArray, List.set_cons_zero, List.set_cons_succ]
      refine wpX_q (.bool true) rfl (by kernel_rfl) (fun v hW => rfl) ?_
      simp only [ptr, Act.put, List.setIfInBounds_toArray, List.set_cons_zero, List.set_cons_succ]
      refine wpX_nil ?_
      go_wp2_with fail
      go_ret
      have C0_24 := Lib.hid (bel_step C0_23.out B23.out)
      have C0_25 := Lib.hid (bel_step C0_24.out B24.out)
      have C0_26 := Lib.hid (bel_step C0_25.out B25.out)
      have C0_27 := Lib.hid (bel_step C0_26.out B26.out)
      have C0_28 := Lib.hid (bel_step C0_27.out B27.out)
      have C0_29 := Lib.hid (bel_step C0_28.out B28.out)
      have C0_30 := Lib.hid (bel_step C0_29.out B29.out)
      have C0_31 := Lib.hid (bel_step C0_30.out B30.out)
      have C0_32 := Lib.hid (bel_step C0_31.out B31.out)
      exact ⟨rfl, C0_32.out⟩
end Go.Proofs.YtopicjdmajlndaaDoor
