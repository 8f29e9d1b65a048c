/-
  No cell of these rows narrows 'for every input' (looked for: loops, veiled, ifaces, maps, wideKeys, modest, calm, conditions, laid).
  DERIVED. THE GIVEN ROWS OF THIS SEAT. 4 by the template 'for every input the law returns true; each argument reads behind the call as it read before'; 0 by the template 'total and deterministic' (their statements: YtkefijogpiofbaaTotals.lean).
  GIVEN WITH THE SEED: the statements are not yours to turn. If you find one false, say at which input.
  Laid BY PROGRAM, IN A SANDBOX (cutbox-rows.mjs): the forced cells as the released guide's own fill.sh prints them over the translation f8264644eca13b3b… (all of the seat's roots in one cut). By AI agents, Wed Nov 11 2026. No macro, syntax, notation, axiom, sorry.
-/
import Derived.Test.YtkefijogpiofbaaChecked
import GoSem.Claim
import GoSem.ClaimJoined
import GoSem.ClaimMapViews
import Derived.JoinedTies
import Derived.KernelRfl
namespace Go.Proofs.Ytkefijogpiofbaa
/- THE CELL 'sum', in the pinned program and in every row, IS THE sha256 OF THE DUMP (.gsa) THAT YtkefijogpiofbaaProg.lean LOADS. Nothing in Lean hashes anything: it is a label: what it is worth is what the hold of that sum in a sandbox is worth. -/
noncomputable def Try.pinned : Pinned := { name := "ytkefijogpiofbaa", sum := "f8264644eca13b3bda52ff814df2674f08ea8a35a1cbe534d004c0b8a7eb8e3c", checked := Try.checked }
namespace Rows
def none {H : Type} : Left H := { results := [], args := [] }

/-- 'attestorlaw09.ReedsolomonMatchesReference': WHATEVER THE INPUT: true; the input reads as it did. -/
def reedsolomonMatchesReferenceSpec : ChangeSpec := { name := "reedsolomonMatchesReference", fn := fun _ => fun
  | [d1, d2, d3, d4] => { results := [.lit (.bool true)], args := [d1, d2, d3, d4] }
  | _ => none }
def reedsolomonMatchesReferenceRow : OpenClaim := { program := "ytkefijogpiofbaa", sum := "f8264644eca13b3bda52ff814df2674f08ea8a35a1cbe534d004c0b8a7eb8e3c", func := "attestor/attestorlaw09.ReedsolomonMatchesReference", spec := "reedsolomonMatchesReference", unfollowed := true, recurses := true, apart := false }
def ReedsolomonMatchesReferenceSaid : Prop := reedsolomonMatchesReferenceRow.holds Try.pinned (OpenSpec.ofChange reedsolomonMatchesReferenceSpec)

/-- ITS FALSE NEIGHBOUR: 'it returns false'. Refute it at one input. -/
def reedsolomonMatchesReferenceWrong : ChangeSpec := { name := "reedsolomonMatchesReference", fn := fun _ => fun
  | [d1, d2, d3, d4] => { results := [.lit (.bool false)], args := [d1, d2, d3, d4] }
  | _ => none }
def ReedsolomonMatchesReferenceWrongFalsely : Prop := reedsolomonMatchesReferenceRow.holds Try.pinned (OpenSpec.ofChange reedsolomonMatchesReferenceWrong)

/-- 'attestorlaw09.ReedsolomonDecodeMatchesReference': WHATEVER THE INPUT: true; the input reads as it did. -/
def reedsolomonDecodeMatchesReferenceSpec : ChangeSpec := { name := "reedsolomonDecodeMatchesReference", fn := fun _ => fun
  | [d1, d2, d3, d4] => { results := [.lit (.bool true)], args := [d1, d2, d3, d4] }
  | _ => none }
def reedsolomonDecodeMatchesReferenceRow : OpenClaim := { program := "ytkefijogpiofbaa", sum := "f8264644eca13b3bda52ff814df2674f08ea8a35a1cbe534d004c0b8a7eb8e3c", func := "attestor/attestorlaw09.ReedsolomonDecodeMatchesReference", spec := "reedsolomonDecodeMatchesReference", unfollowed := true, recurses := true, apart := false }
def ReedsolomonDecodeMatchesReferenceSaid : Prop := reedsolomonDecodeMatchesReferenceRow.holds Try.pinned (OpenSpec.ofChange reedsolomonDecodeMatchesReferenceSpec)

/-- ITS FALSE NEIGHBOUR: 'it returns false'. Refute it at one input. -/
def reedsolomonDecodeMatchesReferenceWrong : ChangeSpec := { name := "reedsolomonDecodeMatchesReference", fn := fun _ => fun
  | [d1, d2, d3, d4] => { results := [.lit (.bool false)], args := [d1, d2, d3, d4] }
  | _ => none }
def ReedsolomonDecodeMatchesReferenceWrongFalsely : Prop := reedsolomonDecodeMatchesReferenceRow.holds Try.pinned (OpenSpec.ofChange reedsolomonDecodeMatchesReferenceWrong)

/-- 'attestorlaw09.ReedsolomonMinDistance': WHATEVER THE INPUT: true; the input reads as it did. -/
def reedsolomonMinDistanceSpec : ChangeSpec := { name := "reedsolomonMinDistance", fn := fun _ => fun
  | [d1, d2, d3, d4] => { results := [.lit (.bool true)], args := [d1, d2, d3, d4] }
  | _ => none }
def reedsolomonMinDistanceRow : OpenClaim := { program := "ytkefijogpiofbaa", sum := "f8264644eca13b3bda52ff814df2674f08ea8a35a1cbe534d004c0b8a7eb8e3c", func := "attestor/attestorlaw09.ReedsolomonMinDistance", spec := "reedsolomonMinDistance", unfollowed := true, recurses := true, apart := false }
def ReedsolomonMinDistanceSaid : Prop := reedsolomonMinDistanceRow.holds Try.pinned (OpenSpec.ofChange reedsolomonMinDistanceSpec)

/-- ITS FALSE NEIGHBOUR: 'it returns false'. Refute it at one input. -/
def reedsolomonMinDistanceWrong : ChangeSpec := { name := "reedsolomonMinDistance", fn := fun _ => fun
  | [d1, d2, d3, d4] => { results := [.lit (.bool false)], args := [d1, d2, d3, d4] }
  | _ => none }
def ReedsolomonMinDistanceWrongFalsely : Prop := reedsolomonMinDistanceRow.holds Try.pinned (OpenSpec.ofChange reedsolomonMinDistanceWrong)

/-- 'attestorlaw09.ReedsolomonSymbols': WHATEVER THE INPUT: true; the input reads as it did. -/
def reedsolomonSymbolsSpec : ChangeSpec := { name := "reedsolomonSymbols", fn := fun _ => fun
  | [d1, d2, d3] => { results := [.lit (.bool true)], args := [d1, d2, d3] }
  | _ => none }
def reedsolomonSymbolsRow : OpenClaim := { program := "ytkefijogpiofbaa", sum := "f8264644eca13b3bda52ff814df2674f08ea8a35a1cbe534d004c0b8a7eb8e3c", func := "attestor/attestorlaw09.ReedsolomonSymbols", spec := "reedsolomonSymbols", unfollowed := true, recurses := true, apart := false }
def ReedsolomonSymbolsSaid : Prop := reedsolomonSymbolsRow.holds Try.pinned (OpenSpec.ofChange reedsolomonSymbolsSpec)

/-- ITS FALSE NEIGHBOUR: 'it returns false'. Refute it at one input. -/
def reedsolomonSymbolsWrong : ChangeSpec := { name := "reedsolomonSymbols", fn := fun _ => fun
  | [d1, d2, d3] => { results := [.lit (.bool false)], args := [d1, d2, d3] }
  | _ => none }
def ReedsolomonSymbolsWrongFalsely : Prop := reedsolomonSymbolsRow.holds Try.pinned (OpenSpec.ofChange reedsolomonSymbolsWrong)

/- THE SECOND FORM. 'bulk': how many values and letters a reading holds, each counted each time it is reached (what is shared counts as often as it is met; a slice's spare places count too). A statement '..UptoSaid' is the law's where the arguments, and the package variables that the reading takes, are together of bulk at most 1048576: NARROWER than '..Said'. Prove '..Said' where nothing that the law and all that it calls make is longer than what came in: it says more and counts as full. Else prove '..UptoSaid'. A law counts once. -/
mutual
def uptoBulk {H : Type} : DataW H → Nat
  | .lit (.string bytes) => bytes.length + 1
  | .lit _ => 1
  | .nil => 1
  | .ptr d => uptoBulk d + 1
  | .slice elems spare => uptoBulkAll elems + uptoBulkAll spare + 1
  | .agg parts => uptoBulkAll parts + 1
  | .iface _ d => uptoBulk d + 1
  | .map entries => uptoBulkEntries entries + 1
  | .held _ => 1
def uptoBulkAll {H : Type} : List (DataW H) → Nat
  | [] => 0
  | d :: r => uptoBulk d + uptoBulkAll r
def uptoBulkEntries {H : Type} : List (Lit × DataW H) → Nat
  | [] => 0
  | x :: r => uptoBulkEntry x + uptoBulkEntries r
def uptoBulkEntry {H : Type} : Lit × DataW H → Nat
  | (.string bytes, d) => bytes.length + uptoBulk d + 1
  | (_, d) => uptoBulk d + 1
 end
def uptoSmall : (H : Type) → List (DataW H) → Bool := fun _ ds => decide (uptoBulkAll ds ≤ 1048576)
def OpenSpec.upto (s : _root_.Go.ChangeSpec) : _root_.Go.OpenSpec := { _root_.Go.OpenSpec.ofChange s with cond := some uptoSmall }

/-- 'attestorlaw09.ReedsolomonMatchesReference', WHERE WHAT IT READS IS OF BULK AT MOST 1048576: true; the input reads as it did. -/
def reedsolomonMatchesReferenceUptoRow : OpenClaim := { program := "ytkefijogpiofbaa", sum := "f8264644eca13b3bda52ff814df2674f08ea8a35a1cbe534d004c0b8a7eb8e3c", func := "attestor/attestorlaw09.ReedsolomonMatchesReference", spec := "reedsolomonMatchesReference", unfollowed := true, recurses := true, apart := false, narrowed := true }
def ReedsolomonMatchesReferenceUptoSaid : Prop := reedsolomonMatchesReferenceUptoRow.holds Try.pinned (OpenSpec.upto reedsolomonMatchesReferenceSpec)

/-- 'attestorlaw09.ReedsolomonDecodeMatchesReference', WHERE WHAT IT READS IS OF BULK AT MOST 1048576: true; the input reads as it did. -/
def reedsolomonDecodeMatchesReferenceUptoRow : OpenClaim := { program := "ytkefijogpiofbaa", sum := "f8264644eca13b3bda52ff814df2674f08ea8a35a1cbe534d004c0b8a7eb8e3c", func := "attestor/attestorlaw09.ReedsolomonDecodeMatchesReference", spec := "reedsolomonDecodeMatchesReference", unfollowed := true, recurses := true, apart := false, narrowed := true }
def ReedsolomonDecodeMatchesReferenceUptoSaid : Prop := reedsolomonDecodeMatchesReferenceUptoRow.holds Try.pinned (OpenSpec.upto reedsolomonDecodeMatchesReferenceSpec)

/-- 'attestorlaw09.ReedsolomonMinDistance', WHERE WHAT IT READS IS OF BULK AT MOST 1048576: true; the input reads as it did. -/
def reedsolomonMinDistanceUptoRow : OpenClaim := { program := "ytkefijogpiofbaa", sum := "f8264644eca13b3bda52ff814df2674f08ea8a35a1cbe534d004c0b8a7eb8e3c", func := "attestor/attestorlaw09.ReedsolomonMinDistance", spec := "reedsolomonMinDistance", unfollowed := true, recurses := true, apart := false, narrowed := true }
def ReedsolomonMinDistanceUptoSaid : Prop := reedsolomonMinDistanceUptoRow.holds Try.pinned (OpenSpec.upto reedsolomonMinDistanceSpec)

/-- 'attestorlaw09.ReedsolomonSymbols', WHERE WHAT IT READS IS OF BULK AT MOST 1048576: true; the input reads as it did. -/
def reedsolomonSymbolsUptoRow : OpenClaim := { program := "ytkefijogpiofbaa", sum := "f8264644eca13b3bda52ff814df2674f08ea8a35a1cbe534d004c0b8a7eb8e3c", func := "attestor/attestorlaw09.ReedsolomonSymbols", spec := "reedsolomonSymbols", unfollowed := true, recurses := true, apart := false, narrowed := true }
def ReedsolomonSymbolsUptoSaid : Prop := reedsolomonSymbolsUptoRow.holds Try.pinned (OpenSpec.upto reedsolomonSymbolsSpec)

end Rows
end Go.Proofs.Ytkefijogpiofbaa
