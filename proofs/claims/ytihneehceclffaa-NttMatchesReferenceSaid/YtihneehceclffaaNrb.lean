/- Package ntt and its reference answer alike; no conditions but that slices hold field elements. -/
import Derived.Test.YtihneehceclffaaNrm
namespace Go.Proofs.Ytihneehceclffaa
open Go.RowKit Gold

/-- the call answers a slice that holds l, and the code k -/
def Ans (f : FuncId) (args : Array Value) (w : World) (l : List F) (k : Int) : Prop := Calls Try.prog f args w fun e w' => ∃ A' c', e = .returned (.tuple #[.slice A' l.length c', .int .i64 k]) ∧ Sf w' A' l.length c' l ∧ Below w.heap.size w w'
theorem Ans.no {f : FuncId} {args : Array Value} {w : World} {k : Int} (h : Calls Try.prog f args w fun e w' => e = .returned (.tuple #[.slice none 0 0, .int .i64 k]) ∧ Below w.heap.size w w') : Ans f args w [] k :=
  h.mono fun _ _ ⟨he, hb⟩ => ⟨none, 0, he, Sf.nil _, hb⟩
theorem Ans.yes {f : FuncId} {args : Array Value} {w : World} {k : Int} {n : Nat} {l : List F} (hl : l.length = n) (h : Calls Try.prog f args w fun e w' => ∃ A' c', e = .returned (.tuple #[.slice A' n c', .int .i64 k]) ∧ Sf w' A' n c' l ∧ Below w.heap.size w w') : Ans f args w l k := by
  subst hl
  exact h
theorem Ans.yes' {f : FuncId} {args : Array Value} {w : World} {k : Int} {n : Nat} {l : List F} (hl : l.length = n) (h : Calls Try.prog f args w fun e w' => ∃ g, e = .returned (.tuple #[.slice (some ⟨g, 0, none⟩) n n, .int .i64 k]) ∧ Sf w' (some ⟨g, 0, none⟩) n n l ∧ Below w.heap.size w w') : Ans f args w l k :=
  Ans.yes hl (h.mono fun _ _ ⟨_, h⟩ => ⟨_, _, h⟩)
theorem fwd_both (n : Nat) (xs : List F) : ∃ (l : List F) (k : Int), (∀ A c w, Sf w A n c xs → Ans 14 #[.slice A n c] w l k) ∧ (∀ A c w, Sf w A n c xs → Ans 15 #[.slice A n c] w l k) := by
  by_cases h : ∃ q : Nat, q ≤ 16 ∧ n = 2 ^ q
  · obtain ⟨q, hq, hn⟩ := h
    exact ⟨_, _, fun A c w h => Ans.yes' (tabF_length _ _) (forward_yes A n c xs q w h hn hq), fun A c w h => Ans.yes (tabF_length _ _) (rforward_yes A n c xs q w h hn hq)⟩
  · have hno : ∀ k : Nat, k ≤ 16 → n ≠ 2 ^ k := fun k hk e => h ⟨k, hk, e⟩
    exact ⟨_, _, fun A c w h => Ans.no (forward_no A n c xs w h hno), fun A c w h => Ans.no (rforward_no A n c xs w h hno)⟩
theorem inv_both (n : Nat) (xs : List F) : ∃ (l : List F) (k : Int), (∀ A c w, Sf w A n c xs → Ans 16 #[.slice A n c] w l k) ∧ (∀ A c w, Sf w A n c xs → Ans 17 #[.slice A n c] w l k) := by
  by_cases h : ∃ q : Nat, q ≤ 16 ∧ n = 2 ^ q
  · obtain ⟨q, hq, hn⟩ := h
    exact ⟨_, _, fun A c w h => Ans.yes' (tabF_length _ _) (inverse_yes A n c xs q w h hn hq), fun A c w h => Ans.yes (tabF_length _ _) (rinverse_yes A n c xs q w h hn hq)⟩
  · have hno : ∀ k : Nat, k ≤ 16 → n ≠ 2 ^ k := fun k hk e => h ⟨k, hk, e⟩
    exact ⟨_, _, fun A c w h => Ans.no (inverse_no A n c xs w h hno), fun A c w h => Ans.no (rinverse_no A n c xs w h hno)⟩
theorem ext_both (n : Nat) (xs : List F) (b : Int) (h0 : -9223372036854775808 ≤ b) (h1 : b < 9223372036854775808) : ∃ (l : List F) (k : Int), (∀ A c w, Sf w A n c xs → Ans 18 #[.slice A n c, .int .i64 b] w l k) ∧ (∀ A c w, Sf w A n c xs → Ans 19 #[.slice A n c, .int .i64 b] w l k) := by
  by_cases h : ∃ K L : Nat, K + L ≤ 16 ∧ n = 2 ^ K ∧ b = ((2 ^ L : Nat) : Int)
  · obtain ⟨K, L, hK, hn, rfl⟩ := h
    exact ⟨_, _, fun A c w h => Ans.yes' (tabF_length _ _) (extend_yes A n c xs (2 ^ L) _ K L w h hn rfl rfl hK), fun A c w h => Ans.yes (tabF_length _ _) (rextend_yes A n c xs (2 ^ L) _ K L w h hn rfl rfl hK)⟩
  · have hno : ∀ K L : Nat, K + L ≤ 16 → n = 2 ^ K → b ≠ ((2 ^ L : Nat) : Int) := fun K L hk hn e => h ⟨K, L, hk, hn, e⟩
    exact ⟨_, _, fun A c w h => Ans.no (extend_no A n c xs b w h h0 h1 hno), fun A c w h => Ans.no (rextend_no A n c xs b w h hno)⟩
theorem mul_both (n m : Nat) (xs ys : List F) (hn : n ≤ 30000) (hm : m ≤ 30000) : ∃ (l : List F) (k : Int), (∀ A c B d w, Sf w A n c xs → Sf w B m d ys → Ans 20 #[.slice A n c, .slice B m d] w l k) ∧ (∀ A c B d w, Sf w A n c xs → Sf w B m d ys → Ans 21 #[.slice A n c, .slice B m d] w l k) := by
  by_cases h0 : n = 0 ∨ m = 0
  · exact ⟨_, _, fun A c B d w _ _ => Ans.no (mul_empty A n c B m d w (by omega) (by omega) h0), fun A c B d w _ _ => Ans.no (rmul_empty A n c B m d w h0)⟩
  · by_cases hl : xs.length = n ∧ ys.length = m
    · have hL : (mulF' xs ys).length = n + m - 1 := by rw [mulF'_length, hl.1, hl.2]
      exact ⟨_, _, fun A c B d w h h' => Ans.yes' hL (mul_yes A n c xs B m d ys w h h' (by omega) (by omega) (by omega)), fun A c B d w h h' => Ans.yes' hL (rmul_yes A n c xs B m d ys w h h' (by omega) (by omega) (by omega))⟩
    · exact ⟨[], 0, fun A c B d w h h' => absurd ⟨h.len.symm, h'.len.symm⟩ hl, fun A c B d w h h' => absurd ⟨h.len.symm, h'.len.symm⟩ hl⟩

end Go.Proofs.Ytihneehceclffaa
