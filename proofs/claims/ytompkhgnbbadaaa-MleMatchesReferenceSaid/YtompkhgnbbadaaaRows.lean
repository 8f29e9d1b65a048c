/-
  No cell of these rows narrows 'for every input' (looked for: loops, veiled, ifaces, maps, wideKeys, modest, calm, conditions, laid).
  DERIVED. THE GIVEN ROWS OF THIS SEAT. 9 by the template 'for every input the law returns true; each argument reads behind the call as it read before'; 0 by the template 'total and deterministic' (their statements: YtompkhgnbbadaaaTotals.lean).
  GIVEN WITH THE SEED: the statements are not yours to turn. If you find one false, say at which input.
  Laid BY PROGRAM, IN A SANDBOX (cutbox-rows.mjs): the forced cells as the released guide's own fill.sh prints them over the translation 4bf5d87f9fb6f230… (all of the seat's roots in one cut). By AI agents, Wed Nov 11 2026. No macro, syntax, notation, axiom, sorry.
-/
import Derived.Test.YtompkhgnbbadaaaChecked
import GoSem.Claim
import GoSem.ClaimJoined
import GoSem.ClaimMapViews
import Derived.JoinedTies
import Derived.KernelRfl
namespace Go.Proofs.Ytompkhgnbbadaaa
/- THE CELL 'sum', in the pinned program and in every row, IS THE sha256 OF THE DUMP (.gsa) THAT YtompkhgnbbadaaaProg.lean LOADS. Nothing in Lean hashes anything: it is a label: what it is worth is what the hold of that sum in a sandbox is worth. -/
noncomputable def Try.pinned : Pinned := { name := "ytompkhgnbbadaaa", sum := "4bf5d87f9fb6f2308dee8b517f96a09682b67e29555c2cff5bace63877d978aa", checked := Try.checked }
namespace Rows
def none {H : Type} : Left H := { results := [], args := [] }

/-- 'attestorlaw05.MleMatchesReference': WHATEVER THE INPUT: true; the input reads as it did. -/
def mleMatchesReferenceSpec : ChangeSpec := { name := "mleMatchesReference", fn := fun _ => fun
  | [d1, d2, d3] => { results := [.lit (.bool true)], args := [d1, d2, d3] }
  | _ => none }
def mleMatchesReferenceRow : OpenClaim := { program := "ytompkhgnbbadaaa", sum := "4bf5d87f9fb6f2308dee8b517f96a09682b67e29555c2cff5bace63877d978aa", func := "attestor/attestorlaw05.MleMatchesReference", spec := "mleMatchesReference", unfollowed := true, recurses := true, apart := false }
def MleMatchesReferenceSaid : Prop := mleMatchesReferenceRow.holds Try.pinned (OpenSpec.ofChange mleMatchesReferenceSpec)

/-- ITS FALSE NEIGHBOUR: 'it returns false'. Refute it at one input. -/
def mleMatchesReferenceWrong : ChangeSpec := { name := "mleMatchesReference", fn := fun _ => fun
  | [d1, d2, d3] => { results := [.lit (.bool false)], args := [d1, d2, d3] }
  | _ => none }
def MleMatchesReferenceWrongFalsely : Prop := mleMatchesReferenceRow.holds Try.pinned (OpenSpec.ofChange mleMatchesReferenceWrong)

/-- 'attestorlaw05.MleExtension': WHATEVER THE INPUT: true; the input reads as it did. -/
def mleExtensionSpec : ChangeSpec := { name := "mleExtension", fn := fun _ => fun
  | [d1, d2, d3] => { results := [.lit (.bool true)], args := [d1, d2, d3] }
  | _ => none }
def mleExtensionRow : OpenClaim := { program := "ytompkhgnbbadaaa", sum := "4bf5d87f9fb6f2308dee8b517f96a09682b67e29555c2cff5bace63877d978aa", func := "attestor/attestorlaw05.MleExtension", spec := "mleExtension", unfollowed := true, recurses := true, apart := false }
def MleExtensionSaid : Prop := mleExtensionRow.holds Try.pinned (OpenSpec.ofChange mleExtensionSpec)

/-- ITS FALSE NEIGHBOUR: 'it returns false'. Refute it at one input. -/
def mleExtensionWrong : ChangeSpec := { name := "mleExtension", fn := fun _ => fun
  | [d1, d2, d3] => { results := [.lit (.bool false)], args := [d1, d2, d3] }
  | _ => none }
def MleExtensionWrongFalsely : Prop := mleExtensionRow.holds Try.pinned (OpenSpec.ofChange mleExtensionWrong)

/-- 'attestorlaw05.MleBinding': WHATEVER THE INPUT: true; the input reads as it did. -/
def mleBindingSpec : ChangeSpec := { name := "mleBinding", fn := fun _ => fun
  | [d] => { results := [.lit (.bool true)], args := [d] }
  | _ => none }
def mleBindingRow : OpenClaim := { program := "ytompkhgnbbadaaa", sum := "4bf5d87f9fb6f2308dee8b517f96a09682b67e29555c2cff5bace63877d978aa", func := "attestor/attestorlaw05.MleBinding", spec := "mleBinding", unfollowed := true, recurses := true, apart := false }
def MleBindingSaid : Prop := mleBindingRow.holds Try.pinned (OpenSpec.ofChange mleBindingSpec)

/-- ITS FALSE NEIGHBOUR: 'it returns false'. Refute it at one input. -/
def mleBindingWrong : ChangeSpec := { name := "mleBinding", fn := fun _ => fun
  | [d] => { results := [.lit (.bool false)], args := [d] }
  | _ => none }
def MleBindingWrongFalsely : Prop := mleBindingRow.holds Try.pinned (OpenSpec.ofChange mleBindingWrong)

/-- 'attestorlaw05.MleLinear': WHATEVER THE INPUT: true; the input reads as it did. -/
def mleLinearSpec : ChangeSpec := { name := "mleLinear", fn := fun _ => fun
  | [d1, d2, d3] => { results := [.lit (.bool true)], args := [d1, d2, d3] }
  | _ => none }
def mleLinearRow : OpenClaim := { program := "ytompkhgnbbadaaa", sum := "4bf5d87f9fb6f2308dee8b517f96a09682b67e29555c2cff5bace63877d978aa", func := "attestor/attestorlaw05.MleLinear", spec := "mleLinear", unfollowed := true, recurses := true, apart := false }
def MleLinearSaid : Prop := mleLinearRow.holds Try.pinned (OpenSpec.ofChange mleLinearSpec)

/-- ITS FALSE NEIGHBOUR: 'it returns false'. Refute it at one input. -/
def mleLinearWrong : ChangeSpec := { name := "mleLinear", fn := fun _ => fun
  | [d1, d2, d3] => { results := [.lit (.bool false)], args := [d1, d2, d3] }
  | _ => none }
def MleLinearWrongFalsely : Prop := mleLinearRow.holds Try.pinned (OpenSpec.ofChange mleLinearWrong)

/-- 'attestorlaw05.MleWeights': WHATEVER THE INPUT: true; the input reads as it did. -/
def mleWeightsSpec : ChangeSpec := { name := "mleWeights", fn := fun _ => fun
  | [d] => { results := [.lit (.bool true)], args := [d] }
  | _ => none }
def mleWeightsRow : OpenClaim := { program := "ytompkhgnbbadaaa", sum := "4bf5d87f9fb6f2308dee8b517f96a09682b67e29555c2cff5bace63877d978aa", func := "attestor/attestorlaw05.MleWeights", spec := "mleWeights", unfollowed := true, recurses := true, apart := false }
def MleWeightsSaid : Prop := mleWeightsRow.holds Try.pinned (OpenSpec.ofChange mleWeightsSpec)

/-- ITS FALSE NEIGHBOUR: 'it returns false'. Refute it at one input. -/
def mleWeightsWrong : ChangeSpec := { name := "mleWeights", fn := fun _ => fun
  | [d] => { results := [.lit (.bool false)], args := [d] }
  | _ => none }
def MleWeightsWrongFalsely : Prop := mleWeightsRow.holds Try.pinned (OpenSpec.ofChange mleWeightsWrong)

/-- 'attestorlaw05.MleEquality': WHATEVER THE INPUT: true; the input reads as it did. -/
def mleEqualitySpec : ChangeSpec := { name := "mleEquality", fn := fun _ => fun
  | [d1, d2, d3] => { results := [.lit (.bool true)], args := [d1, d2, d3] }
  | _ => none }
def mleEqualityRow : OpenClaim := { program := "ytompkhgnbbadaaa", sum := "4bf5d87f9fb6f2308dee8b517f96a09682b67e29555c2cff5bace63877d978aa", func := "attestor/attestorlaw05.MleEquality", spec := "mleEquality", unfollowed := true, recurses := true, apart := false }
def MleEqualitySaid : Prop := mleEqualityRow.holds Try.pinned (OpenSpec.ofChange mleEqualitySpec)

/-- ITS FALSE NEIGHBOUR: 'it returns false'. Refute it at one input. -/
def mleEqualityWrong : ChangeSpec := { name := "mleEquality", fn := fun _ => fun
  | [d1, d2, d3] => { results := [.lit (.bool false)], args := [d1, d2, d3] }
  | _ => none }
def MleEqualityWrongFalsely : Prop := mleEqualityRow.holds Try.pinned (OpenSpec.ofChange mleEqualityWrong)

/-- 'attestorlaw05.MleStreaming': WHATEVER THE INPUT: true; the input reads as it did. -/
def mleStreamingSpec : ChangeSpec := { name := "mleStreaming", fn := fun _ => fun
  | [d1, d2] => { results := [.lit (.bool true)], args := [d1, d2] }
  | _ => none }
def mleStreamingRow : OpenClaim := { program := "ytompkhgnbbadaaa", sum := "4bf5d87f9fb6f2308dee8b517f96a09682b67e29555c2cff5bace63877d978aa", func := "attestor/attestorlaw05.MleStreaming", spec := "mleStreaming", unfollowed := true, recurses := true, apart := false }
def MleStreamingSaid : Prop := mleStreamingRow.holds Try.pinned (OpenSpec.ofChange mleStreamingSpec)

/-- ITS FALSE NEIGHBOUR: 'it returns false'. Refute it at one input. -/
def mleStreamingWrong : ChangeSpec := { name := "mleStreaming", fn := fun _ => fun
  | [d1, d2] => { results := [.lit (.bool false)], args := [d1, d2] }
  | _ => none }
def MleStreamingWrongFalsely : Prop := mleStreamingRow.holds Try.pinned (OpenSpec.ofChange mleStreamingWrong)

/-- 'attestorlaw05.MleLines': WHATEVER THE INPUT: true; the input reads as it did. -/
def mleLinesSpec : ChangeSpec := { name := "mleLines", fn := fun _ => fun
  | [d1, d2] => { results := [.lit (.bool true)], args := [d1, d2] }
  | _ => none }
def mleLinesRow : OpenClaim := { program := "ytompkhgnbbadaaa", sum := "4bf5d87f9fb6f2308dee8b517f96a09682b67e29555c2cff5bace63877d978aa", func := "attestor/attestorlaw05.MleLines", spec := "mleLines", unfollowed := true, recurses := true, apart := false }
def MleLinesSaid : Prop := mleLinesRow.holds Try.pinned (OpenSpec.ofChange mleLinesSpec)

/-- ITS FALSE NEIGHBOUR: 'it returns false'. Refute it at one input. -/
def mleLinesWrong : ChangeSpec := { name := "mleLines", fn := fun _ => fun
  | [d1, d2] => { results := [.lit (.bool false)], args := [d1, d2] }
  | _ => none }
def MleLinesWrongFalsely : Prop := mleLinesRow.holds Try.pinned (OpenSpec.ofChange mleLinesWrong)

/-- 'attestorlaw05.MleSums': WHATEVER THE INPUT: true; the input reads as it did. -/
def mleSumsSpec : ChangeSpec := { name := "mleSums", fn := fun _ => fun
  | [d] => { results := [.lit (.bool true)], args := [d] }
  | _ => none }
def mleSumsRow : OpenClaim := { program := "ytompkhgnbbadaaa", sum := "4bf5d87f9fb6f2308dee8b517f96a09682b67e29555c2cff5bace63877d978aa", func := "attestor/attestorlaw05.MleSums", spec := "mleSums", unfollowed := true, recurses := true, apart := false }
def MleSumsSaid : Prop := mleSumsRow.holds Try.pinned (OpenSpec.ofChange mleSumsSpec)

/-- ITS FALSE NEIGHBOUR: 'it returns false'. Refute it at one input. -/
def mleSumsWrong : ChangeSpec := { name := "mleSums", fn := fun _ => fun
  | [d] => { results := [.lit (.bool false)], args := [d] }
  | _ => none }
def MleSumsWrongFalsely : Prop := mleSumsRow.holds Try.pinned (OpenSpec.ofChange mleSumsWrong)

/- THE SECOND FORM. 'bulk': how many values and letters a reading holds, each counted each time it is reached (what is shared counts as often as it is met; a slice's spare places count too). A statement '..UptoSaid' is the law's where the arguments, and the package variables that the reading takes, are together of bulk at most 1048576: NARROWER than '..Said'. Prove '..Said' where nothing that the law and all that it calls make is longer than what came in: it says more and counts as full. Else prove '..UptoSaid'. A law counts once. -/
mutual
def uptoBulk {H : Type} : DataW H → Nat
  | .lit (.string bytes) => bytes.length + 1
  | .lit _ => 1
  | .nil => 1
  | .ptr d => uptoBulk d + 1
  | .slice elems spare => uptoBulkAll elems + uptoBulkAll spare + 1
  | .agg parts => uptoBulkAll parts + 1
  | .iface _ d => uptoBulk d + 1
  | .map entries => uptoBulkEntries entries + 1
  | .held _ => 1
def uptoBulkAll {H : Type} : List (DataW H) → Nat
  | [] => 0
  | d :: r => uptoBulk d + uptoBulkAll r
def uptoBulkEntries {H : Type} : List (Lit × DataW H) → Nat
  | [] => 0
  | x :: r => uptoBulkEntry x + uptoBulkEntries r
def uptoBulkEntry {H : Type} : Lit × DataW H → Nat
  | (.string bytes, d) => bytes.length + uptoBulk d + 1
  | (_, d) => uptoBulk d + 1
 end
def uptoSmall : (H : Type) → List (DataW H) → Bool := fun _ ds => decide (uptoBulkAll ds ≤ 1048576)
def OpenSpec.upto (s : _root_.Go.ChangeSpec) : _root_.Go.OpenSpec := { _root_.Go.OpenSpec.ofChange s with cond := some uptoSmall }

/-- 'attestorlaw05.MleMatchesReference', WHERE WHAT IT READS IS OF BULK AT MOST 1048576: true; the input reads as it did. -/
def mleMatchesReferenceUptoRow : OpenClaim := { program := "ytompkhgnbbadaaa", sum := "4bf5d87f9fb6f2308dee8b517f96a09682b67e29555c2cff5bace63877d978aa", func := "attestor/attestorlaw05.MleMatchesReference", spec := "mleMatchesReference", unfollowed := true, recurses := true, apart := false, narrowed := true }
def MleMatchesReferenceUptoSaid : Prop := mleMatchesReferenceUptoRow.holds Try.pinned (OpenSpec.upto mleMatchesReferenceSpec)

/-- 'attestorlaw05.MleExtension', WHERE WHAT IT READS IS OF BULK AT MOST 1048576: true; the input reads as it did. -/
def mleExtensionUptoRow : OpenClaim := { program := "ytompkhgnbbadaaa", sum := "4bf5d87f9fb6f2308dee8b517f96a09682b67e29555c2cff5bace63877d978aa", func := "attestor/attestorlaw05.MleExtension", spec := "mleExtension", unfollowed := true, recurses := true, apart := false, narrowed := true }
def MleExtensionUptoSaid : Prop := mleExtensionUptoRow.holds Try.pinned (OpenSpec.upto mleExtensionSpec)

/-- 'attestorlaw05.MleBinding', WHERE WHAT IT READS IS OF BULK AT MOST 1048576: true; the input reads as it did. -/
def mleBindingUptoRow : OpenClaim := { program := "ytompkhgnbbadaaa", sum := "4bf5d87f9fb6f2308dee8b517f96a09682b67e29555c2cff5bace63877d978aa", func := "attestor/attestorlaw05.MleBinding", spec := "mleBinding", unfollowed := true, recurses := true, apart := false, narrowed := true }
def MleBindingUptoSaid : Prop := mleBindingUptoRow.holds Try.pinned (OpenSpec.upto mleBindingSpec)

/-- 'attestorlaw05.MleLinear', WHERE WHAT IT READS IS OF BULK AT MOST 1048576: true; the input reads as it did. -/
def mleLinearUptoRow : OpenClaim := { program := "ytompkhgnbbadaaa", sum := "4bf5d87f9fb6f2308dee8b517f96a09682b67e29555c2cff5bace63877d978aa", func := "attestor/attestorlaw05.MleLinear", spec := "mleLinear", unfollowed := true, recurses := true, apart := false, narrowed := true }
def MleLinearUptoSaid : Prop := mleLinearUptoRow.holds Try.pinned (OpenSpec.upto mleLinearSpec)

/-- 'attestorlaw05.MleWeights', WHERE WHAT IT READS IS OF BULK AT MOST 1048576: true; the input reads as it did. -/
def mleWeightsUptoRow : OpenClaim := { program := "ytompkhgnbbadaaa", sum := "4bf5d87f9fb6f2308dee8b517f96a09682b67e29555c2cff5bace63877d978aa", func := "attestor/attestorlaw05.MleWeights", spec := "mleWeights", unfollowed := true, recurses := true, apart := false, narrowed := true }
def MleWeightsUptoSaid : Prop := mleWeightsUptoRow.holds Try.pinned (OpenSpec.upto mleWeightsSpec)

/-- 'attestorlaw05.MleEquality', WHERE WHAT IT READS IS OF BULK AT MOST 1048576: true; the input reads as it did. -/
def mleEqualityUptoRow : OpenClaim := { program := "ytompkhgnbbadaaa", sum := "4bf5d87f9fb6f2308dee8b517f96a09682b67e29555c2cff5bace63877d978aa", func := "attestor/attestorlaw05.MleEquality", spec := "mleEquality", unfollowed := true, recurses := true, apart := false, narrowed := true }
def MleEqualityUptoSaid : Prop := mleEqualityUptoRow.holds Try.pinned (OpenSpec.upto mleEqualitySpec)

/-- 'attestorlaw05.MleStreaming', WHERE WHAT IT READS IS OF BULK AT MOST 1048576: true; the input reads as it did. -/
def mleStreamingUptoRow : OpenClaim := { program := "ytompkhgnbbadaaa", sum := "4bf5d87f9fb6f2308dee8b517f96a09682b67e29555c2cff5bace63877d978aa", func := "attestor/attestorlaw05.MleStreaming", spec := "mleStreaming", unfollowed := true, recurses := true, apart := false, narrowed := true }
def MleStreamingUptoSaid : Prop := mleStreamingUptoRow.holds Try.pinned (OpenSpec.upto mleStreamingSpec)

/-- 'attestorlaw05.MleLines', WHERE WHAT IT READS IS OF BULK AT MOST 1048576: true; the input reads as it did. -/
def mleLinesUptoRow : OpenClaim := { program := "ytompkhgnbbadaaa", sum := "4bf5d87f9fb6f2308dee8b517f96a09682b67e29555c2cff5bace63877d978aa", func := "attestor/attestorlaw05.MleLines", spec := "mleLines", unfollowed := true, recurses := true, apart := false, narrowed := true }
def MleLinesUptoSaid : Prop := mleLinesUptoRow.holds Try.pinned (OpenSpec.upto mleLinesSpec)

/-- 'attestorlaw05.MleSums', WHERE WHAT IT READS IS OF BULK AT MOST 1048576: true; the input reads as it did. -/
def mleSumsUptoRow : OpenClaim := { program := "ytompkhgnbbadaaa", sum := "4bf5d87f9fb6f2308dee8b517f96a09682b67e29555c2cff5bace63877d978aa", func := "attestor/attestorlaw05.MleSums", spec := "mleSums", unfollowed := true, recurses := true, apart := false, narrowed := true }
def MleSumsUptoSaid : Prop := mleSumsUptoRow.holds Try.pinned (OpenSpec.upto mleSumsSpec)

end Rows
end Go.Proofs.Ytompkhgnbbadaaa
