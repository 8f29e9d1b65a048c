/-
  No cell of these rows narrows 'for every input' (looked for: loops, veiled, ifaces, maps, wideKeys, modest, calm, conditions, laid).
  DERIVED. THE GIVEN ROWS OF THIS SEAT. 9 by the template 'for every input the law returns true; each argument reads behind the call as it read before'; 0 by the template 'total and deterministic' (their statements: YtihneehceclffaaTotals.lean).
  GIVEN WITH THE SEED: the statements are not yours to turn. If you find one false, say at which input.
  Laid BY PROGRAM, IN A SANDBOX (cutbox-rows.mjs): the forced cells as the released guide's own fill.sh prints them over the translation 181a72ecdddae9c6… (all of the seat's roots in one cut). By AI agents, Wed Nov 11 2026. No macro, syntax, notation, axiom, sorry.
-/
import Derived.Test.YtihneehceclffaaChecked
import GoSem.Claim
import GoSem.ClaimJoined
import GoSem.ClaimMapViews
import Derived.JoinedTies
import Derived.KernelRfl
namespace Go.Proofs.Ytihneehceclffaa
/- THE CELL 'sum', in the pinned program and in every row, IS THE sha256 OF THE DUMP (.gsa) THAT YtihneehceclffaaProg.lean LOADS. Nothing in Lean hashes anything: it is a label: what it is worth is what the hold of that sum in a sandbox is worth. -/
noncomputable def Try.pinned : Pinned := { name := "ytihneehceclffaa", sum := "181a72ecdddae9c6bc964d4db19c1992b0e8ebf108661d4691df6f5d7962f1e9", checked := Try.checked }
namespace Rows
def none {H : Type} : Left H := { results := [], args := [] }

/-- 'attestorlaw04.NttMatchesReference': WHATEVER THE INPUT: true; the input reads as it did. -/
def nttMatchesReferenceSpec : ChangeSpec := { name := "nttMatchesReference", fn := fun _ => fun
  | [d1, d2, d3] => { results := [.lit (.bool true)], args := [d1, d2, d3] }
  | _ => none }
def nttMatchesReferenceRow : OpenClaim := { program := "ytihneehceclffaa", sum := "181a72ecdddae9c6bc964d4db19c1992b0e8ebf108661d4691df6f5d7962f1e9", func := "attestor/attestorlaw04.NttMatchesReference", spec := "nttMatchesReference", unfollowed := true, recurses := true, apart := false }
def NttMatchesReferenceSaid : Prop := nttMatchesReferenceRow.holds Try.pinned (OpenSpec.ofChange nttMatchesReferenceSpec)

/-- ITS FALSE NEIGHBOUR: 'it returns false'. Refute it at one input. -/
def nttMatchesReferenceWrong : ChangeSpec := { name := "nttMatchesReference", fn := fun _ => fun
  | [d1, d2, d3] => { results := [.lit (.bool false)], args := [d1, d2, d3] }
  | _ => none }
def NttMatchesReferenceWrongFalsely : Prop := nttMatchesReferenceRow.holds Try.pinned (OpenSpec.ofChange nttMatchesReferenceWrong)

/-- 'attestorlaw04.NttInversion': WHATEVER THE INPUT: true; the input reads as it did. -/
def nttInversionSpec : ChangeSpec := { name := "nttInversion", fn := fun _ => fun
  | [d1, d2] => { results := [.lit (.bool true)], args := [d1, d2] }
  | _ => none }
def nttInversionRow : OpenClaim := { program := "ytihneehceclffaa", sum := "181a72ecdddae9c6bc964d4db19c1992b0e8ebf108661d4691df6f5d7962f1e9", func := "attestor/attestorlaw04.NttInversion", spec := "nttInversion", unfollowed := true, recurses := true, apart := false }
def NttInversionSaid : Prop := nttInversionRow.holds Try.pinned (OpenSpec.ofChange nttInversionSpec)

/-- ITS FALSE NEIGHBOUR: 'it returns false'. Refute it at one input. -/
def nttInversionWrong : ChangeSpec := { name := "nttInversion", fn := fun _ => fun
  | [d1, d2] => { results := [.lit (.bool false)], args := [d1, d2] }
  | _ => none }
def NttInversionWrongFalsely : Prop := nttInversionRow.holds Try.pinned (OpenSpec.ofChange nttInversionWrong)

/-- 'attestorlaw04.NttLinearity': WHATEVER THE INPUT: true; the input reads as it did. -/
def nttLinearitySpec : ChangeSpec := { name := "nttLinearity", fn := fun _ => fun
  | [d1, d2, d3] => { results := [.lit (.bool true)], args := [d1, d2, d3] }
  | _ => none }
def nttLinearityRow : OpenClaim := { program := "ytihneehceclffaa", sum := "181a72ecdddae9c6bc964d4db19c1992b0e8ebf108661d4691df6f5d7962f1e9", func := "attestor/attestorlaw04.NttLinearity", spec := "nttLinearity", unfollowed := true, recurses := true, apart := false }
def NttLinearitySaid : Prop := nttLinearityRow.holds Try.pinned (OpenSpec.ofChange nttLinearitySpec)

/-- ITS FALSE NEIGHBOUR: 'it returns false'. Refute it at one input. -/
def nttLinearityWrong : ChangeSpec := { name := "nttLinearity", fn := fun _ => fun
  | [d1, d2, d3] => { results := [.lit (.bool false)], args := [d1, d2, d3] }
  | _ => none }
def NttLinearityWrongFalsely : Prop := nttLinearityRow.holds Try.pinned (OpenSpec.ofChange nttLinearityWrong)

/-- 'attestorlaw04.NttRotation': WHATEVER THE INPUT: true; the input reads as it did. -/
def nttRotationSpec : ChangeSpec := { name := "nttRotation", fn := fun _ => fun
  | [d1, d2] => { results := [.lit (.bool true)], args := [d1, d2] }
  | _ => none }
def nttRotationRow : OpenClaim := { program := "ytihneehceclffaa", sum := "181a72ecdddae9c6bc964d4db19c1992b0e8ebf108661d4691df6f5d7962f1e9", func := "attestor/attestorlaw04.NttRotation", spec := "nttRotation", unfollowed := true, recurses := true, apart := false }
def NttRotationSaid : Prop := nttRotationRow.holds Try.pinned (OpenSpec.ofChange nttRotationSpec)

/-- ITS FALSE NEIGHBOUR: 'it returns false'. Refute it at one input. -/
def nttRotationWrong : ChangeSpec := { name := "nttRotation", fn := fun _ => fun
  | [d1, d2] => { results := [.lit (.bool false)], args := [d1, d2] }
  | _ => none }
def NttRotationWrongFalsely : Prop := nttRotationRow.holds Try.pinned (OpenSpec.ofChange nttRotationWrong)

/-- 'attestorlaw04.NttValues': WHATEVER THE INPUT: true; the input reads as it did. -/
def nttValuesSpec : ChangeSpec := { name := "nttValues", fn := fun _ => fun
  | [d1, d2, d3] => { results := [.lit (.bool true)], args := [d1, d2, d3] }
  | _ => none }
def nttValuesRow : OpenClaim := { program := "ytihneehceclffaa", sum := "181a72ecdddae9c6bc964d4db19c1992b0e8ebf108661d4691df6f5d7962f1e9", func := "attestor/attestorlaw04.NttValues", spec := "nttValues", unfollowed := true, recurses := true, apart := false }
def NttValuesSaid : Prop := nttValuesRow.holds Try.pinned (OpenSpec.ofChange nttValuesSpec)

/-- ITS FALSE NEIGHBOUR: 'it returns false'. Refute it at one input. -/
def nttValuesWrong : ChangeSpec := { name := "nttValues", fn := fun _ => fun
  | [d1, d2, d3] => { results := [.lit (.bool false)], args := [d1, d2, d3] }
  | _ => none }
def NttValuesWrongFalsely : Prop := nttValuesRow.holds Try.pinned (OpenSpec.ofChange nttValuesWrong)

/-- 'attestorlaw04.NttExtension': WHATEVER THE INPUT: true; the input reads as it did. -/
def nttExtensionSpec : ChangeSpec := { name := "nttExtension", fn := fun _ => fun
  | [d1, d2] => { results := [.lit (.bool true)], args := [d1, d2] }
  | _ => none }
def nttExtensionRow : OpenClaim := { program := "ytihneehceclffaa", sum := "181a72ecdddae9c6bc964d4db19c1992b0e8ebf108661d4691df6f5d7962f1e9", func := "attestor/attestorlaw04.NttExtension", spec := "nttExtension", unfollowed := true, recurses := true, apart := false }
def NttExtensionSaid : Prop := nttExtensionRow.holds Try.pinned (OpenSpec.ofChange nttExtensionSpec)

/-- ITS FALSE NEIGHBOUR: 'it returns false'. Refute it at one input. -/
def nttExtensionWrong : ChangeSpec := { name := "nttExtension", fn := fun _ => fun
  | [d1, d2] => { results := [.lit (.bool false)], args := [d1, d2] }
  | _ => none }
def NttExtensionWrongFalsely : Prop := nttExtensionRow.holds Try.pinned (OpenSpec.ofChange nttExtensionWrong)

/-- 'attestorlaw04.NttProducts': WHATEVER THE INPUT: true; the input reads as it did. -/
def nttProductsSpec : ChangeSpec := { name := "nttProducts", fn := fun _ => fun
  | [d1, d2, d3] => { results := [.lit (.bool true)], args := [d1, d2, d3] }
  | _ => none }
def nttProductsRow : OpenClaim := { program := "ytihneehceclffaa", sum := "181a72ecdddae9c6bc964d4db19c1992b0e8ebf108661d4691df6f5d7962f1e9", func := "attestor/attestorlaw04.NttProducts", spec := "nttProducts", unfollowed := true, recurses := true, apart := false }
def NttProductsSaid : Prop := nttProductsRow.holds Try.pinned (OpenSpec.ofChange nttProductsSpec)

/-- ITS FALSE NEIGHBOUR: 'it returns false'. Refute it at one input. -/
def nttProductsWrong : ChangeSpec := { name := "nttProducts", fn := fun _ => fun
  | [d1, d2, d3] => { results := [.lit (.bool false)], args := [d1, d2, d3] }
  | _ => none }
def NttProductsWrongFalsely : Prop := nttProductsRow.holds Try.pinned (OpenSpec.ofChange nttProductsWrong)

/-- 'attestorlaw04.NttMulAlgebra': WHATEVER THE INPUT: true; the input reads as it did. -/
def nttMulAlgebraSpec : ChangeSpec := { name := "nttMulAlgebra", fn := fun _ => fun
  | [d1, d2, d3] => { results := [.lit (.bool true)], args := [d1, d2, d3] }
  | _ => none }
def nttMulAlgebraRow : OpenClaim := { program := "ytihneehceclffaa", sum := "181a72ecdddae9c6bc964d4db19c1992b0e8ebf108661d4691df6f5d7962f1e9", func := "attestor/attestorlaw04.NttMulAlgebra", spec := "nttMulAlgebra", unfollowed := true, recurses := true, apart := false }
def NttMulAlgebraSaid : Prop := nttMulAlgebraRow.holds Try.pinned (OpenSpec.ofChange nttMulAlgebraSpec)

/-- ITS FALSE NEIGHBOUR: 'it returns false'. Refute it at one input. -/
def nttMulAlgebraWrong : ChangeSpec := { name := "nttMulAlgebra", fn := fun _ => fun
  | [d1, d2, d3] => { results := [.lit (.bool false)], args := [d1, d2, d3] }
  | _ => none }
def NttMulAlgebraWrongFalsely : Prop := nttMulAlgebraRow.holds Try.pinned (OpenSpec.ofChange nttMulAlgebraWrong)

/-- 'attestorlaw04.NttErrors': WHATEVER THE INPUT: true; the input reads as it did. -/
def nttErrorsSpec : ChangeSpec := { name := "nttErrors", fn := fun _ => fun
  | [d1, d2] => { results := [.lit (.bool true)], args := [d1, d2] }
  | _ => none }
def nttErrorsRow : OpenClaim := { program := "ytihneehceclffaa", sum := "181a72ecdddae9c6bc964d4db19c1992b0e8ebf108661d4691df6f5d7962f1e9", func := "attestor/attestorlaw04.NttErrors", spec := "nttErrors", unfollowed := true, recurses := true, apart := false }
def NttErrorsSaid : Prop := nttErrorsRow.holds Try.pinned (OpenSpec.ofChange nttErrorsSpec)

/-- ITS FALSE NEIGHBOUR: 'it returns false'. Refute it at one input. -/
def nttErrorsWrong : ChangeSpec := { name := "nttErrors", fn := fun _ => fun
  | [d1, d2] => { results := [.lit (.bool false)], args := [d1, d2] }
  | _ => none }
def NttErrorsWrongFalsely : Prop := nttErrorsRow.holds Try.pinned (OpenSpec.ofChange nttErrorsWrong)

/- THE SECOND FORM. 'bulk': how many values and letters a reading holds, each counted each time it is reached (what is shared counts as often as it is met; a slice's spare places count too). A statement '..UptoSaid' is the law's where the arguments, and the package variables that the reading takes, are together of bulk at most 1048576: NARROWER than '..Said'. Prove '..Said' where nothing that the law and all that it calls make is longer than what came in: it says more and counts as full. Else prove '..UptoSaid'. A law counts once. -/
mutual
def uptoBulk {H : Type} : DataW H → Nat
  | .lit (.string bytes) => bytes.length + 1
  | .lit _ => 1
  | .nil => 1
  | .ptr d => uptoBulk d + 1
  | .slice elems spare => uptoBulkAll elems + uptoBulkAll spare + 1
  | .agg parts => uptoBulkAll parts + 1
  | .iface _ d => uptoBulk d + 1
  | .map entries => uptoBulkEntries entries + 1
  | .held _ => 1
def uptoBulkAll {H : Type} : List (DataW H) → Nat
  | [] => 0
  | d :: r => uptoBulk d + uptoBulkAll r
def uptoBulkEntries {H : Type} : List (Lit × DataW H) → Nat
  | [] => 0
  | x :: r => uptoBulkEntry x + uptoBulkEntries r
def uptoBulkEntry {H : Type} : Lit × DataW H → Nat
  | (.string bytes, d) => bytes.length + uptoBulk d + 1
  | (_, d) => uptoBulk d + 1
 end
def uptoSmall : (H : Type) → List (DataW H) → Bool := fun _ ds => decide (uptoBulkAll ds ≤ 1048576)
def OpenSpec.upto (s : _root_.Go.ChangeSpec) : _root_.Go.OpenSpec := { _root_.Go.OpenSpec.ofChange s with cond := some uptoSmall }

/-- 'attestorlaw04.NttMatchesReference', WHERE WHAT IT READS IS OF BULK AT MOST 1048576: true; the input reads as it did. -/
def nttMatchesReferenceUptoRow : OpenClaim := { program := "ytihneehceclffaa", sum := "181a72ecdddae9c6bc964d4db19c1992b0e8ebf108661d4691df6f5d7962f1e9", func := "attestor/attestorlaw04.NttMatchesReference", spec := "nttMatchesReference", unfollowed := true, recurses := true, apart := false, narrowed := true }
def NttMatchesReferenceUptoSaid : Prop := nttMatchesReferenceUptoRow.holds Try.pinned (OpenSpec.upto nttMatchesReferenceSpec)

/-- 'attestorlaw04.NttInversion', WHERE WHAT IT READS IS OF BULK AT MOST 1048576: true; the input reads as it did. -/
def nttInversionUptoRow : OpenClaim := { program := "ytihneehceclffaa", sum := "181a72ecdddae9c6bc964d4db19c1992b0e8ebf108661d4691df6f5d7962f1e9", func := "attestor/attestorlaw04.NttInversion", spec := "nttInversion", unfollowed := true, recurses := true, apart := false, narrowed := true }
def NttInversionUptoSaid : Prop := nttInversionUptoRow.holds Try.pinned (OpenSpec.upto nttInversionSpec)

/-- 'attestorlaw04.NttLinearity', WHERE WHAT IT READS IS OF BULK AT MOST 1048576: true; the input reads as it did. -/
def nttLinearityUptoRow : OpenClaim := { program := "ytihneehceclffaa", sum := "181a72ecdddae9c6bc964d4db19c1992b0e8ebf108661d4691df6f5d7962f1e9", func := "attestor/attestorlaw04.NttLinearity", spec := "nttLinearity", unfollowed := true, recurses := true, apart := false, narrowed := true }
def NttLinearityUptoSaid : Prop := nttLinearityUptoRow.holds Try.pinned (OpenSpec.upto nttLinearitySpec)

/-- 'attestorlaw04.NttRotation', WHERE WHAT IT READS IS OF BULK AT MOST 1048576: true; the input reads as it did. -/
def nttRotationUptoRow : OpenClaim := { program := "ytihneehceclffaa", sum := "181a72ecdddae9c6bc964d4db19c1992b0e8ebf108661d4691df6f5d7962f1e9", func := "attestor/attestorlaw04.NttRotation", spec := "nttRotation", unfollowed := true, recurses := true, apart := false, narrowed := true }
def NttRotationUptoSaid : Prop := nttRotationUptoRow.holds Try.pinned (OpenSpec.upto nttRotationSpec)

/-- 'attestorlaw04.NttValues', WHERE WHAT IT READS IS OF BULK AT MOST 1048576: true; the input reads as it did. -/
def nttValuesUptoRow : OpenClaim := { program := "ytihneehceclffaa", sum := "181a72ecdddae9c6bc964d4db19c1992b0e8ebf108661d4691df6f5d7962f1e9", func := "attestor/attestorlaw04.NttValues", spec := "nttValues", unfollowed := true, recurses := true, apart := false, narrowed := true }
def NttValuesUptoSaid : Prop := nttValuesUptoRow.holds Try.pinned (OpenSpec.upto nttValuesSpec)

/-- 'attestorlaw04.NttExtension', WHERE WHAT IT READS IS OF BULK AT MOST 1048576: true; the input reads as it did. -/
def nttExtensionUptoRow : OpenClaim := { program := "ytihneehceclffaa", sum := "181a72ecdddae9c6bc964d4db19c1992b0e8ebf108661d4691df6f5d7962f1e9", func := "attestor/attestorlaw04.NttExtension", spec := "nttExtension", unfollowed := true, recurses := true, apart := false, narrowed := true }
def NttExtensionUptoSaid : Prop := nttExtensionUptoRow.holds Try.pinned (OpenSpec.upto nttExtensionSpec)

/-- 'attestorlaw04.NttProducts', WHERE WHAT IT READS IS OF BULK AT MOST 1048576: true; the input reads as it did. -/
def nttProductsUptoRow : OpenClaim := { program := "ytihneehceclffaa", sum := "181a72ecdddae9c6bc964d4db19c1992b0e8ebf108661d4691df6f5d7962f1e9", func := "attestor/attestorlaw04.NttProducts", spec := "nttProducts", unfollowed := true, recurses := true, apart := false, narrowed := true }
def NttProductsUptoSaid : Prop := nttProductsUptoRow.holds Try.pinned (OpenSpec.upto nttProductsSpec)

/-- 'attestorlaw04.NttMulAlgebra', WHERE WHAT IT READS IS OF BULK AT MOST 1048576: true; the input reads as it did. -/
def nttMulAlgebraUptoRow : OpenClaim := { program := "ytihneehceclffaa", sum := "181a72ecdddae9c6bc964d4db19c1992b0e8ebf108661d4691df6f5d7962f1e9", func := "attestor/attestorlaw04.NttMulAlgebra", spec := "nttMulAlgebra", unfollowed := true, recurses := true, apart := false, narrowed := true }
def NttMulAlgebraUptoSaid : Prop := nttMulAlgebraUptoRow.holds Try.pinned (OpenSpec.upto nttMulAlgebraSpec)

/-- 'attestorlaw04.NttErrors', WHERE WHAT IT READS IS OF BULK AT MOST 1048576: true; the input reads as it did. -/
def nttErrorsUptoRow : OpenClaim := { program := "ytihneehceclffaa", sum := "181a72ecdddae9c6bc964d4db19c1992b0e8ebf108661d4691df6f5d7962f1e9", func := "attestor/attestorlaw04.NttErrors", spec := "nttErrors", unfollowed := true, recurses := true, apart := false, narrowed := true }
def NttErrorsUptoSaid : Prop := nttErrorsUptoRow.holds Try.pinned (OpenSpec.upto nttErrorsSpec)

end Rows
end Go.Proofs.Ytihneehceclffaa
