/- Both sides answer alike: contracts in one form for all arguments. -/
import Derived.Test.YtcephdkcjcbanaaDoorWMvp
import Derived.Test.YtcephdkcjcbanaaDoorWMvk
namespace Go.Proofs.YtcephdkcjcbanaaDoor
set_option maxRecDepth 8000
set_option linter.unusedVariables false
set_option linter.unusedSimpArgs false
open Go.RowKit
def openD (Ls : List (List Nat)) (n : Nat) (is : List Int) : List (List Nat) := if incF 0 (n : Int) is = true then digsN Ls (closedN 0 n is) else []
def openE (n : Nat) (is : List Int) : Nat := if incF 0 (n : Int) is = true then 0 else 1
def witD (Ls : List (List Nat)) (n : Nat) (i : Int) : List (List Nat) := if 0 ≤ i ∧ i < (n : Int) then digsN Ls (sibN 0 n i) else []
def witE (n : Nat) (i : Int) : Nat := if 0 ≤ i ∧ i < (n : Int) then 0 else 1
theorem digsN_lt {Ls : List (List Nat)} {xs : List (Nat × Nat)} : ∀ d ∈ digsN Ls xs, ∀ y ∈ d, y < 256 := fun x hx y hy => by
  unfold digsN at hx
  obtain ⟨z, _, rfl⟩ := List.mem_map.1 hx
  exact rootN_lt _ y hy
theorem OwD.db_ {w : World} {base : Nat} {v : Value} {n : Nat} {Ls : List (List Nat)} {xs : List (Nat × Nat)} (h : OwD w base v n (digsN Ls xs)) : ∃ A c, v = .slice A n c ∧ Db w A n c (digsN Ls xs) := h.db digsN_lt
theorem open_w (A : Option Addr) (n c : Nat) (Ls : List (List Nat)) (I : Option Addr) (k d : Nat) (is : List Int) (w : World) (h : Pb w A n c Ls) (hi : Ib w I k d is) (hn1 : 1 ≤ n) (hn : n ≤ 65536) (hL : ∀ l ∈ Ls, l.length ≤ 59999) (hG : Gl w) (D : List (List Nat)) (hD : openD Ls n is = D) (E : Nat) (hE : openE n is = E) :
    Calls Tryd.prog 13 #[.slice A n c, .slice I k d] w fun e w' => ∃ B m f, e = .returned (.tuple #[.agg #[.slice B m f], .int .i64 (E : Int)]) ∧ Db w' B m f D ∧ Below w.heap.size w w' :=
  (open_any A n c Ls I k d is w h hi hn1 hn hL hG).mono fun e w' hh => by
    unfold openD at hD
    unfold openE at hE
    rcases hh with ⟨hf, v, he, ho, hb⟩ | ⟨hf, he, hb⟩
    · rw [if_pos hf] at hD hE
      subst hD hE
      obtain ⟨B, f, e2, hd⟩ := ho.db_
      subst e2
      exact ⟨B, _, f, he, hd, hb⟩
    · rw [if_neg (by rw [hf]; simp)] at hD hE
      subst hD hE
      exact ⟨none, 0, 0, he, Db.none_ _, hb⟩
theorem wit_w (A : Option Addr) (n c : Nat) (Ls : List (List Nat)) (i : Int) (w : World) (h : Pb w A n c Ls) (hn1 : 1 ≤ n) (hn : n ≤ 65536) (hL : ∀ l ∈ Ls, l.length ≤ 59999) (hG : Gl w) (D : List (List Nat)) (hD : witD Ls n i = D) (E : Nat) (hE : witE n i = E) :
    Calls Tryd.prog 16 #[.slice A n c, .int .i64 i] w fun e w' => ∃ B m f, e = .returned (.tuple #[.slice B m f, .int .i64 (E : Int)]) ∧ Db w' B m f D ∧ Below w.heap.size w w' :=
  (witness_any A n c Ls i w h hn1 hn hL hG).mono fun e w' hh => by
    unfold witD at hD
    unfold witE at hE
    rcases hh with ⟨hf, v, he, ho, hb⟩ | ⟨hf, he, hb⟩
    · rw [if_pos hf] at hD hE
      subst hD hE
      obtain ⟨B, f, e2, hd⟩ := ho.db_
      subst e2
      exact ⟨B, _, f, he, hd, hb⟩
    · rw [if_neg hf] at hD hE
      subst hD hE
      exact ⟨none, 0, 0, he, Db.none_ _, hb⟩
theorem ropen_w (ad : Addr) (n c : Nat) (Ls : List (List Nat)) (I : Option Addr) (k d : Nat) (is : List Int) (w : World) (h : Pb w (some ad) n c Ls) (hi : Ib w I k d is) (hn1 : 1 ≤ n) (hn : n ≤ 65536) (hL : ∀ l ∈ Ls, l.length ≤ 59999) (D : List (List Nat)) (hD : openD Ls n is = D) (E : Nat) (hE : openE n is = E) :
    Calls Tryd.prog 14 #[.slice (some ad) n c, .slice I k d] w fun e w' => ∃ B m f, e = .returned (.tuple #[.agg #[.slice B m f], .int .i64 (E : Int)]) ∧ Db w' B m f D ∧ Below w.heap.size w w' :=
  (ropen_any ad n c Ls I k d is w h hi hn1 hn hL).mono fun e w' hh => by
    unfold openD at hD
    unfold openE at hE
    rcases hh with ⟨hf, v, he, ho, hb⟩ | ⟨hf, he, hb⟩
    · rw [if_pos hf] at hD hE
      subst hD hE
      obtain ⟨B, f, e2, hd⟩ := ho.db_
      subst e2
      exact ⟨B, _, f, he, hd, hb⟩
    · rw [if_neg (by rw [hf]; simp)] at hD hE
      subst hD hE
      exact ⟨none, 0, 0, he, Db.none_ _, hb⟩
theorem rwit_w (A : Option Addr) (n c : Nat) (Ls : List (List Nat)) (i : Int) (w : World) (h : Pb w A n c Ls) (hn : n ≤ 65536) (hL : ∀ l ∈ Ls, l.length ≤ 59999) (D : List (List Nat)) (hD : witD Ls n i = D) (E : Nat) (hE : witE n i = E) :
    Calls Tryd.prog 17 #[.slice A n c, .int .i64 i] w fun e w' => ∃ B m f, e = .returned (.tuple #[.slice B m f, .int .i64 (E : Int)]) ∧ Db w' B m f D ∧ Below w.heap.size w w' := by
  unfold witD at hD
  unfold witE at hE
  by_cases hf : 0 ≤ i ∧ i < (n : Int)
  · obtain ⟨j, rfl⟩ : ∃ j : Nat, i = (j : Int) := ⟨i.toNat, by omega⟩
    refine (rwit_any n A n c Ls j w h (Nat.le_refl _) hn hL (by omega)).mono fun e w' ⟨v, he, ho, hb⟩ => ?_
    rw [if_pos hf] at hD hE
    subst hD hE
    obtain ⟨B, f, e2, hd⟩ := ho.db_
    subst e2
    exact ⟨B, _, f, he, hd, hb⟩
  · refine (rwit_no A n c i w (by omega)).mono fun e w' ⟨he, hw⟩ => ?_
    rw [if_neg hf] at hD hE
    subst hD hE hw
    exact ⟨none, 0, 0, he, Db.none_ _, Below.refl _ _⟩
theorem rpush_dbs (ad : Addr) (n c : Nat) (Ds : List (List Nat)) (cnt : Nat) (B : Option Addr) (nb cb : Nat) (b : List Nat) (w : World) (h : Db w (some ad) n c Ds) (hn : n ≤ 60000) (hc : cnt ≤ 100000) (hones : onesN cnt = n) (hB : Sb w B nb cb b) (hnb : nb ≤ 59999) (D : List (List Nat)) (hD : pushN Ds cnt (lfN b) = D) (N : Nat) (hN : D.length = N) :
    Calls Tryd.prog 19 #[.slice (some ad) n c, .int .i64 (cnt : Int), .slice B nb cb] w fun e w' => ∃ ad f, e = .returned (.slice (some ad) N f) ∧ Db w' (some ad) N f D ∧ Below w.heap.size w w' :=
  (rpush_any ad n c Ds cnt B nb cb b w h hn hc hones hB hnb).mono fun e w' ⟨v, he, ho, hb⟩ => by
    have hdg := pushN_dig (m := cnt) (b := b) (fun x hx => (h.dig x hx).2)
    have h1 : 1 ≤ D.length := by rw [← hD]; exact pushF_pos _ _ _ _
    rw [hD] at ho hdg
    obtain ⟨A2, f, e2, hd⟩ := ho.db hdg
    subst e2
    obtain ⟨g, o, rfl⟩ := hd.some_ (by omega)
    subst hN
    exact ⟨_, f, he, hd, hb⟩
end Go.Proofs.YtcephdkcjcbanaaDoor
