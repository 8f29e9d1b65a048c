/-
  No cell of these rows narrows 'for every input' (looked for: loops, veiled, ifaces, maps, wideKeys, modest, calm, conditions, laid).
  DERIVED. THE GIVEN ROWS OF THIS SEAT. 8 by the template 'for every input the law returns true; each argument reads behind the call as it read before'; 0 by the template 'total and deterministic' (their statements: YtbjeicbphkglfaaTotals.lean).
  GIVEN WITH THE SEED: the statements are not yours to turn. If you find one false, say at which input.
  Laid BY PROGRAM, IN A SANDBOX (cutbox-rows.mjs): the forced cells as the released guide's own fill.sh prints them over the translation c55cf403de100e6b… (all of the seat's roots in one cut). By AI agents, Wed Nov 11 2026. No macro, syntax, notation, axiom, sorry.
-/
import Derived.Test.YtbjeicbphkglfaaChecked
import GoSem.Claim
import GoSem.ClaimJoined
import GoSem.ClaimMapViews
import Derived.JoinedTies
import Derived.KernelRfl
namespace Go.Proofs.Ytbjeicbphkglfaa
/- THE CELL 'sum', in the pinned program and in every row, IS THE sha256 OF THE DUMP (.gsa) THAT YtbjeicbphkglfaaProg.lean LOADS. Nothing in Lean hashes anything: it is a label: what it is worth is what the hold of that sum in a sandbox is worth. -/
noncomputable def Try.pinned : Pinned := { name := "ytbjeicbphkglfaa", sum := "c55cf403de100e6b3735b8e0d5b572ef9986bdd8b22956d303e927ff2ef04d43", checked := Try.checked }
namespace Rows
def none {H : Type} : Left H := { results := [], args := [] }

/-- 'attestorlaw02.ExtMatchesReference': WHATEVER THE INPUT: true; the input reads as it did. -/
def extMatchesReferenceSpec : ChangeSpec := { name := "extMatchesReference", fn := fun _ => fun
  | [d1, d2, d3] => { results := [.lit (.bool true)], args := [d1, d2, d3] }
  | _ => none }
def extMatchesReferenceRow : OpenClaim := { program := "ytbjeicbphkglfaa", sum := "c55cf403de100e6b3735b8e0d5b572ef9986bdd8b22956d303e927ff2ef04d43", func := "attestor/attestorlaw02.ExtMatchesReference", spec := "extMatchesReference", unfollowed := true, recurses := true, apart := false }
def ExtMatchesReferenceSaid : Prop := extMatchesReferenceRow.holds Try.pinned (OpenSpec.ofChange extMatchesReferenceSpec)

/-- ITS FALSE NEIGHBOUR: 'it returns false'. Refute it at one input. -/
def extMatchesReferenceWrong : ChangeSpec := { name := "extMatchesReference", fn := fun _ => fun
  | [d1, d2, d3] => { results := [.lit (.bool false)], args := [d1, d2, d3] }
  | _ => none }
def ExtMatchesReferenceWrongFalsely : Prop := extMatchesReferenceRow.holds Try.pinned (OpenSpec.ofChange extMatchesReferenceWrong)

/-- 'attestorlaw02.ExtAxioms': WHATEVER THE INPUT: true; the input reads as it did. -/
def extAxiomsSpec : ChangeSpec := { name := "extAxioms", fn := fun _ => fun
  | [d] => { results := [.lit (.bool true)], args := [d] }
  | _ => none }
def extAxiomsRow : OpenClaim := { program := "ytbjeicbphkglfaa", sum := "c55cf403de100e6b3735b8e0d5b572ef9986bdd8b22956d303e927ff2ef04d43", func := "attestor/attestorlaw02.ExtAxioms", spec := "extAxioms", unfollowed := true, recurses := true, apart := false }
def ExtAxiomsSaid : Prop := extAxiomsRow.holds Try.pinned (OpenSpec.ofChange extAxiomsSpec)

/-- ITS FALSE NEIGHBOUR: 'it returns false'. Refute it at one input. -/
def extAxiomsWrong : ChangeSpec := { name := "extAxioms", fn := fun _ => fun
  | [d] => { results := [.lit (.bool false)], args := [d] }
  | _ => none }
def ExtAxiomsWrongFalsely : Prop := extAxiomsRow.holds Try.pinned (OpenSpec.ofChange extAxiomsWrong)

/-- 'attestorlaw02.ExtInverses': WHATEVER THE INPUT: true; the input reads as it did. -/
def extInversesSpec : ChangeSpec := { name := "extInverses", fn := fun _ => fun
  | [d] => { results := [.lit (.bool true)], args := [d] }
  | _ => none }
def extInversesRow : OpenClaim := { program := "ytbjeicbphkglfaa", sum := "c55cf403de100e6b3735b8e0d5b572ef9986bdd8b22956d303e927ff2ef04d43", func := "attestor/attestorlaw02.ExtInverses", spec := "extInverses", unfollowed := true, recurses := true, apart := false }
def ExtInversesSaid : Prop := extInversesRow.holds Try.pinned (OpenSpec.ofChange extInversesSpec)

/-- ITS FALSE NEIGHBOUR: 'it returns false'. Refute it at one input. -/
def extInversesWrong : ChangeSpec := { name := "extInverses", fn := fun _ => fun
  | [d] => { results := [.lit (.bool false)], args := [d] }
  | _ => none }
def ExtInversesWrongFalsely : Prop := extInversesRow.holds Try.pinned (OpenSpec.ofChange extInversesWrong)

/-- 'attestorlaw02.ExtConjugation': WHATEVER THE INPUT: true; the input reads as it did. -/
def extConjugationSpec : ChangeSpec := { name := "extConjugation", fn := fun _ => fun
  | [d] => { results := [.lit (.bool true)], args := [d] }
  | _ => none }
def extConjugationRow : OpenClaim := { program := "ytbjeicbphkglfaa", sum := "c55cf403de100e6b3735b8e0d5b572ef9986bdd8b22956d303e927ff2ef04d43", func := "attestor/attestorlaw02.ExtConjugation", spec := "extConjugation", unfollowed := true, recurses := true, apart := false }
def ExtConjugationSaid : Prop := extConjugationRow.holds Try.pinned (OpenSpec.ofChange extConjugationSpec)

/-- ITS FALSE NEIGHBOUR: 'it returns false'. Refute it at one input. -/
def extConjugationWrong : ChangeSpec := { name := "extConjugation", fn := fun _ => fun
  | [d] => { results := [.lit (.bool false)], args := [d] }
  | _ => none }
def ExtConjugationWrongFalsely : Prop := extConjugationRow.holds Try.pinned (OpenSpec.ofChange extConjugationWrong)

/-- 'attestorlaw02.ExtPowers': WHATEVER THE INPUT: true; the input reads as it did. -/
def extPowersSpec : ChangeSpec := { name := "extPowers", fn := fun _ => fun
  | [d1, d2, d3] => { results := [.lit (.bool true)], args := [d1, d2, d3] }
  | _ => none }
def extPowersRow : OpenClaim := { program := "ytbjeicbphkglfaa", sum := "c55cf403de100e6b3735b8e0d5b572ef9986bdd8b22956d303e927ff2ef04d43", func := "attestor/attestorlaw02.ExtPowers", spec := "extPowers", unfollowed := true, recurses := true, apart := false }
def ExtPowersSaid : Prop := extPowersRow.holds Try.pinned (OpenSpec.ofChange extPowersSpec)

/-- ITS FALSE NEIGHBOUR: 'it returns false'. Refute it at one input. -/
def extPowersWrong : ChangeSpec := { name := "extPowers", fn := fun _ => fun
  | [d1, d2, d3] => { results := [.lit (.bool false)], args := [d1, d2, d3] }
  | _ => none }
def ExtPowersWrongFalsely : Prop := extPowersRow.holds Try.pinned (OpenSpec.ofChange extPowersWrong)

/-- 'attestorlaw02.ExtBaseField': WHATEVER THE INPUT: true; the input reads as it did. -/
def extBaseFieldSpec : ChangeSpec := { name := "extBaseField", fn := fun _ => fun
  | [d1, d2, d3] => { results := [.lit (.bool true)], args := [d1, d2, d3] }
  | _ => none }
def extBaseFieldRow : OpenClaim := { program := "ytbjeicbphkglfaa", sum := "c55cf403de100e6b3735b8e0d5b572ef9986bdd8b22956d303e927ff2ef04d43", func := "attestor/attestorlaw02.ExtBaseField", spec := "extBaseField", unfollowed := true, recurses := true, apart := false }
def ExtBaseFieldSaid : Prop := extBaseFieldRow.holds Try.pinned (OpenSpec.ofChange extBaseFieldSpec)

/-- ITS FALSE NEIGHBOUR: 'it returns false'. Refute it at one input. -/
def extBaseFieldWrong : ChangeSpec := { name := "extBaseField", fn := fun _ => fun
  | [d1, d2, d3] => { results := [.lit (.bool false)], args := [d1, d2, d3] }
  | _ => none }
def ExtBaseFieldWrongFalsely : Prop := extBaseFieldRow.holds Try.pinned (OpenSpec.ofChange extBaseFieldWrong)

/-- 'attestorlaw02.ExtSquareRoots': WHATEVER THE INPUT: true; the input reads as it did. -/
def extSquareRootsSpec : ChangeSpec := { name := "extSquareRoots", fn := fun _ => fun
  | [d1, d2] => { results := [.lit (.bool true)], args := [d1, d2] }
  | _ => none }
def extSquareRootsRow : OpenClaim := { program := "ytbjeicbphkglfaa", sum := "c55cf403de100e6b3735b8e0d5b572ef9986bdd8b22956d303e927ff2ef04d43", func := "attestor/attestorlaw02.ExtSquareRoots", spec := "extSquareRoots", unfollowed := true, recurses := true, apart := false }
def ExtSquareRootsSaid : Prop := extSquareRootsRow.holds Try.pinned (OpenSpec.ofChange extSquareRootsSpec)

/-- ITS FALSE NEIGHBOUR: 'it returns false'. Refute it at one input. -/
def extSquareRootsWrong : ChangeSpec := { name := "extSquareRoots", fn := fun _ => fun
  | [d1, d2] => { results := [.lit (.bool false)], args := [d1, d2] }
  | _ => none }
def ExtSquareRootsWrongFalsely : Prop := extSquareRootsRow.holds Try.pinned (OpenSpec.ofChange extSquareRootsWrong)

/-- 'attestorlaw02.ExtComponents': WHATEVER THE INPUT: true; the input reads as it did. -/
def extComponentsSpec : ChangeSpec := { name := "extComponents", fn := fun _ => fun
  | [d] => { results := [.lit (.bool true)], args := [d] }
  | _ => none }
def extComponentsRow : OpenClaim := { program := "ytbjeicbphkglfaa", sum := "c55cf403de100e6b3735b8e0d5b572ef9986bdd8b22956d303e927ff2ef04d43", func := "attestor/attestorlaw02.ExtComponents", spec := "extComponents", unfollowed := true, recurses := true, apart := false }
def ExtComponentsSaid : Prop := extComponentsRow.holds Try.pinned (OpenSpec.ofChange extComponentsSpec)

/-- ITS FALSE NEIGHBOUR: 'it returns false'. Refute it at one input. -/
def extComponentsWrong : ChangeSpec := { name := "extComponents", fn := fun _ => fun
  | [d] => { results := [.lit (.bool false)], args := [d] }
  | _ => none }
def ExtComponentsWrongFalsely : Prop := extComponentsRow.holds Try.pinned (OpenSpec.ofChange extComponentsWrong)

/- THE SECOND FORM. 'bulk': how many values and letters a reading holds, each counted each time it is reached (what is shared counts as often as it is met; a slice's spare places count too). A statement '..UptoSaid' is the law's where the arguments, and the package variables that the reading takes, are together of bulk at most 1048576: NARROWER than '..Said'. Prove '..Said' where nothing that the law and all that it calls make is longer than what came in: it says more and counts as full. Else prove '..UptoSaid'. A law counts once. -/
mutual
def uptoBulk {H : Type} : DataW H → Nat
  | .lit (.string bytes) => bytes.length + 1
  | .lit _ => 1
  | .nil => 1
  | .ptr d => uptoBulk d + 1
  | .slice elems spare => uptoBulkAll elems + uptoBulkAll spare + 1
  | .agg parts => uptoBulkAll parts + 1
  | .iface _ d => uptoBulk d + 1
  | .map entries => uptoBulkEntries entries + 1
  | .held _ => 1
def uptoBulkAll {H : Type} : List (DataW H) → Nat
  | [] => 0
  | d :: r => uptoBulk d + uptoBulkAll r
def uptoBulkEntries {H : Type} : List (Lit × DataW H) → Nat
  | [] => 0
  | x :: r => uptoBulkEntry x + uptoBulkEntries r
def uptoBulkEntry {H : Type} : Lit × DataW H → Nat
  | (.string bytes, d) => bytes.length + uptoBulk d + 1
  | (_, d) => uptoBulk d + 1
 end
def uptoSmall : (H : Type) → List (DataW H) → Bool := fun _ ds => decide (uptoBulkAll ds ≤ 1048576)
def OpenSpec.upto (s : _root_.Go.ChangeSpec) : _root_.Go.OpenSpec := { _root_.Go.OpenSpec.ofChange s with cond := some uptoSmall }

/-- 'attestorlaw02.ExtMatchesReference', WHERE WHAT IT READS IS OF BULK AT MOST 1048576: true; the input reads as it did. -/
def extMatchesReferenceUptoRow : OpenClaim := { program := "ytbjeicbphkglfaa", sum := "c55cf403de100e6b3735b8e0d5b572ef9986bdd8b22956d303e927ff2ef04d43", func := "attestor/attestorlaw02.ExtMatchesReference", spec := "extMatchesReference", unfollowed := true, recurses := true, apart := false, narrowed := true }
def ExtMatchesReferenceUptoSaid : Prop := extMatchesReferenceUptoRow.holds Try.pinned (OpenSpec.upto extMatchesReferenceSpec)

/-- 'attestorlaw02.ExtAxioms', WHERE WHAT IT READS IS OF BULK AT MOST 1048576: true; the input reads as it did. -/
def extAxiomsUptoRow : OpenClaim := { program := "ytbjeicbphkglfaa", sum := "c55cf403de100e6b3735b8e0d5b572ef9986bdd8b22956d303e927ff2ef04d43", func := "attestor/attestorlaw02.ExtAxioms", spec := "extAxioms", unfollowed := true, recurses := true, apart := false, narrowed := true }
def ExtAxiomsUptoSaid : Prop := extAxiomsUptoRow.holds Try.pinned (OpenSpec.upto extAxiomsSpec)

/-- 'attestorlaw02.ExtInverses', WHERE WHAT IT READS IS OF BULK AT MOST 1048576: true; the input reads as it did. -/
def extInversesUptoRow : OpenClaim := { program := "ytbjeicbphkglfaa", sum := "c55cf403de100e6b3735b8e0d5b572ef9986bdd8b22956d303e927ff2ef04d43", func := "attestor/attestorlaw02.ExtInverses", spec := "extInverses", unfollowed := true, recurses := true, apart := false, narrowed := true }
def ExtInversesUptoSaid : Prop := extInversesUptoRow.holds Try.pinned (OpenSpec.upto extInversesSpec)

/-- 'attestorlaw02.ExtConjugation', WHERE WHAT IT READS IS OF BULK AT MOST 1048576: true; the input reads as it did. -/
def extConjugationUptoRow : OpenClaim := { program := "ytbjeicbphkglfaa", sum := "c55cf403de100e6b3735b8e0d5b572ef9986bdd8b22956d303e927ff2ef04d43", func := "attestor/attestorlaw02.ExtConjugation", spec := "extConjugation", unfollowed := true, recurses := true, apart := false, narrowed := true }
def ExtConjugationUptoSaid : Prop := extConjugationUptoRow.holds Try.pinned (OpenSpec.upto extConjugationSpec)

/-- 'attestorlaw02.ExtPowers', WHERE WHAT IT READS IS OF BULK AT MOST 1048576: true; the input reads as it did. -/
def extPowersUptoRow : OpenClaim := { program := "ytbjeicbphkglfaa", sum := "c55cf403de100e6b3735b8e0d5b572ef9986bdd8b22956d303e927ff2ef04d43", func := "attestor/attestorlaw02.ExtPowers", spec := "extPowers", unfollowed := true, recurses := true, apart := false, narrowed := true }
def ExtPowersUptoSaid : Prop := extPowersUptoRow.holds Try.pinned (OpenSpec.upto extPowersSpec)

/-- 'attestorlaw02.ExtBaseField', WHERE WHAT IT READS IS OF BULK AT MOST 1048576: true; the input reads as it did. -/
def extBaseFieldUptoRow : OpenClaim := { program := "ytbjeicbphkglfaa", sum := "c55cf403de100e6b3735b8e0d5b572ef9986bdd8b22956d303e927ff2ef04d43", func := "attestor/attestorlaw02.ExtBaseField", spec := "extBaseField", unfollowed := true, recurses := true, apart := false, narrowed := true }
def ExtBaseFieldUptoSaid : Prop := extBaseFieldUptoRow.holds Try.pinned (OpenSpec.upto extBaseFieldSpec)

/-- 'attestorlaw02.ExtSquareRoots', WHERE WHAT IT READS IS OF BULK AT MOST 1048576: true; the input reads as it did. -/
def extSquareRootsUptoRow : OpenClaim := { program := "ytbjeicbphkglfaa", sum := "c55cf403de100e6b3735b8e0d5b572ef9986bdd8b22956d303e927ff2ef04d43", func := "attestor/attestorlaw02.ExtSquareRoots", spec := "extSquareRoots", unfollowed := true, recurses := true, apart := false, narrowed := true }
def ExtSquareRootsUptoSaid : Prop := extSquareRootsUptoRow.holds Try.pinned (OpenSpec.upto extSquareRootsSpec)

/-- 'attestorlaw02.ExtComponents', WHERE WHAT IT READS IS OF BULK AT MOST 1048576: true; the input reads as it did. -/
def extComponentsUptoRow : OpenClaim := { program := "ytbjeicbphkglfaa", sum := "c55cf403de100e6b3735b8e0d5b572ef9986bdd8b22956d303e927ff2ef04d43", func := "attestor/attestorlaw02.ExtComponents", spec := "extComponents", unfollowed := true, recurses := true, apart := false, narrowed := true }
def ExtComponentsUptoSaid : Prop := extComponentsUptoRow.holds Try.pinned (OpenSpec.upto extComponentsSpec)

end Rows
end Go.Proofs.Ytbjeicbphkglfaa
