/- Contracts of the reference of package poly: values, made lists, roots, quotients; no conditions but lengths. -/
import Derived.Test.YtompkhgnbbadaaaApp
namespace Go.Proofs.Ytompkhgnbbadaaa
open Go.RowKit Gold


/-- the element that is made of two numbers -/
def madeE (p : Int × Int) : E2 := toE p.1 p.2
/-- pairs of numbers that a program may hold -/
def Nums (ps : List (Int × Int)) : Prop := ∀ p, p ∈ ps → U64 p.1 ∧ U64 p.2
/-- a slice that came in -/
def Sr (w : World) (A : Option Addr) (n c : Nat) (ps : List (Int × Int)) : Prop := SlR w A n c (ps.map fun p => (.int .u64 p.1, .int .u64 p.2))
theorem Sr.len {w : World} {A : Option Addr} {n c : Nat} {ps : List (Int × Int)} (h : Sr w A n c ps) : n = ps.length := by simpa using SlR.len h
theorem Sr.keep {w w' : World} {A : Option Addr} {n c : Nat} {ps : List (Int × Int)} (h : Sr w A n c ps) (hb : Below w.heap.size w w') : Sr w' A n c ps := SlR.keep h hb
theorem Sr.at_ {w : World} {A : Option Addr} {n c : Nat} {ps : List (Int × Int)} {i : Nat} {p : Int × Int} (h : Sr w A n c ps) (hx : ps[i]? = some p) : ∃ ad, A = some ad ∧ w.cell? (ad.add (i * 2)) = some (.int .u64 p.1) ∧ w.cell? ⟨(ad.add (i * 2)).block, (ad.add (i * 2)).off + 1, none⟩ = some (.int .u64 p.2) := by
  obtain ⟨ad, e, h1, h2⟩ := SlR.cells h i (.int .u64 p.1, .int .u64 p.2) (by simp [hx])
  exact ⟨ad, e, h1, h2⟩
theorem Sr.get {w : World} {A : Option Addr} {n c : Nat} {ps : List (Int × Int)} {i : Nat} (h : Sr w A n c ps) (hi : i < n) : ∃ p, ps[i]? = some p := ⟨ps[i]'(by have := h.len; omega), List.getElem?_eq_getElem _⟩
theorem take_map_snoc {ps : List (Int × Int)} {k : Nat} {p : Int × Int} (h : ps[k]? = some p) : (ps.take (k + 1)).map madeE = (ps.take k).map madeE ++ [madeE p] := by
  obtain ⟨hl, he⟩ := List.getElem?_eq_some_iff.1 h
  rw [List.take_succ_eq_append_getElem hl, List.map_append, he]
  rfl


/-- exactly q elements -/
def exactE (ps : List (Int × Int)) (q : Nat) : List E2 := (ps.take q).map madeE ++ List.replicate (q - ps.length) E2.zero
theorem exactE_length (ps : List (Int × Int)) (q : Nat) : (exactE ps q).length = q := by
  unfold exactE
  rw [List.length_append, List.length_map, List.length_take, List.length_replicate]
  omega



/-- the places below k at which p vanishes -/
def rootsAt (xs ls : List E2) (k : Nat) : List Nat := (List.range k).filter fun i => ezero (evE xs (cfE ls i))
theorem rootsAt_yes {xs ls : List E2} {k : Nat} (h : ezero (evE xs (cfE ls k)) = true) : rootsAt xs ls (k + 1) = rootsAt xs ls k ++ [k] := by
  unfold rootsAt
  rw [List.range_succ, List.filter_append]
  simp [h]
theorem rootsAt_no {xs ls : List E2} {k : Nat} (h : ezero (evE xs (cfE ls k)) = false) : rootsAt xs ls (k + 1) = rootsAt xs ls k := by
  unfold rootsAt
  rw [List.range_succ, List.filter_append]
  simp [h]
theorem rootsAt_length (xs ls : List E2) (k : Nat) : (rootsAt xs ls k).length ≤ k := by
  unfold rootsAt
  have := List.length_filter_le (fun i => ezero (evE xs (cfE ls i))) (List.range k)
  simpa using this


end Go.Proofs.Ytompkhgnbbadaaa
