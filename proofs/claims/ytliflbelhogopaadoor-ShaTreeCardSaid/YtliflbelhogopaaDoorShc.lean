/- SHA-256 over lists of bytes: padding, the chain over the blocks, the digest of a message; no program. -/
import Derived.Test.YtliflbelhogopaaDoorShb
namespace Go.Proofs.YtliflbelhogopaaDoor
set_option maxRecDepth 8000
open Go.RowKit

def zerosN (n : Nat) : Nat := 63 - (n + 8) % 64
def lenF (n i : Nat) : Nat := 8 * n / 2 ^ (56 - 8 * i) % 256
/-- the first k bytes of the length -/
def lenB (n k : Nat) : List Nat := (List.range k).map (lenF n)
def padN (n : Nat) : List Nat := 128 :: (List.replicate (zerosN n) 0 ++ lenB n 8)
def msgN (m : List Nat) : List Nat := m ++ padN m.length
theorem lenB_length (n k : Nat) : (lenB n k).length = k := by unfold lenB; simp
theorem lenB_succ (n k : Nat) : lenB n (k + 1) = lenB n k ++ [lenF n k] := by unfold lenB; rw [List.range_succ]; simp
theorem lenF_lt (n i : Nat) : lenF n i < 256 := Nat.mod_lt _ (by decide)
theorem lenB_lt (n k : Nat) : ∀ x ∈ lenB n k, x < 256 := by
  intro x hx
  unfold lenB at hx
  obtain ⟨i, _, rfl⟩ := List.mem_map.1 hx
  exact lenF_lt n i
theorem lenB_drop (n i : Nat) (h : i < 8) : (lenB n 8).drop (8 - (i + 1)) = lenF n (7 - i) :: (lenB n 8).drop (8 - i) := by
  have e : 8 - (i + 1) < (lenB n 8).length := by rw [lenB_length]; omega
  rw [List.drop_eq_getElem_cons e, show 8 - (i + 1) + 1 = 8 - i by omega]
  congr 1
  unfold lenB
  simp
theorem padN_length (n : Nat) : (padN n).length = zerosN n + 9 := by unfold padN; simp [lenB_length]
theorem padN_lt (n : Nat) : ∀ x ∈ padN n, x < 256 := by
  intro x hx
  unfold padN at hx
  rcases List.mem_cons.1 hx with rfl | hx
  · decide
  · rcases List.mem_append.1 hx with hx | hx
    · rw [(List.mem_replicate.1 hx).2]; decide
    · exact lenB_lt n 8 x hx
theorem zerosN_le (n : Nat) : zerosN n ≤ 63 := Nat.sub_le _ _
/-- the number of blocks -/
def nblk (n : Nat) : Nat := (n + 8) / 64 + 1
theorem total_len (n : Nat) : n + (zerosN n + 9) = 64 * nblk n := by unfold zerosN nblk; omega
theorem msgN_length (m : List Nat) : (msgN m).length = 64 * nblk m.length := by unfold msgN; rw [List.length_append, padN_length, total_len]
theorem msgN_lt {m : List Nat} (h : ∀ x ∈ m, x < 256) : ∀ x ∈ msgN m, x < 256 := by
  intro x hx
  rcases List.mem_append.1 hx with hx | hx
  · exact h x hx
  · exact padN_lt _ x hx
/-- the bytes of block i of a message -/
def blkF (p : List Nat) (i : Nat) : Nat → Nat := fun j => p.getD (64 * i + j) 0
/-- the chain after i blocks, from s on -/
def stN (s : Ch) (p : List Nat) : Nat → Ch
  | 0 => s
  | i + 1 => compN (stN s p i) (blkF p i)
theorem stN_ok {s : Ch} (h : s.Ok) (p : List Nat) (i : Nat) : (stN s p i).Ok := by
  cases i with
  | zero => exact h
  | succ i => exact compN_ok _ _
/-- the digest of a message -/
def shaN (m : List Nat) : List Nat := digN (stN ch0 (msgN m) (nblk m.length)) 32
theorem shaN_length (m : List Nat) : (shaN m).length = 32 := digN_length _ _
theorem digN_lt (s : Ch) (n : Nat) : ∀ x ∈ digN s n, x < 256 := by
  intro x hx
  unfold digN at hx
  obtain ⟨i, _, rfl⟩ := List.mem_map.1 hx
  exact Nat.mod_lt _ (by decide)
theorem shaN_lt (m : List Nat) : ∀ x ∈ shaN m, x < 256 := digN_lt _ _
theorem blkF_lt {p : List Nat} (h : ∀ x ∈ p, x < 256) (i j : Nat) : blkF p i j < 256 := getD_byte h _
theorem blkF_drop (p : List Nat) (i : Nat) : blkF p i = fun j => (p.drop (64 * i)).getD j 0 := by
  funext j
  unfold blkF
  simp [List.getD_eq_getElem?_getD, List.getElem?_drop]
theorem set_end {a x k : Nat} {D : List Nat} : (a :: (List.replicate (k + 1) 0 ++ D)).set (k + 1) x = a :: (List.replicate k 0 ++ x :: D) := by
  rw [List.set_cons_succ]
  congr 1
  rw [List.replicate_succ']
  simp
theorem get_end {a k : Nat} {D : List Nat} : (a :: (List.replicate (k + 1) 0 ++ D))[k + 1]? = some 0 := by
  rw [List.getElem?_cons_succ, List.getElem?_append_left (by simp)]
  simp
end Go.Proofs.YtliflbelhogopaaDoor
