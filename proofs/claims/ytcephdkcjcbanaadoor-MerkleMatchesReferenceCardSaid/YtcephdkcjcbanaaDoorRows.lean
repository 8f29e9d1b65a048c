/-
  NARROWER THAN 'FOR EVERY INPUT', by the rows' own cells (each row's printed sentence says how): MerkleMatchesReference: laid · MerkleChecksMatchReference: laid · MerkleOpenings: laid · MerkleGrowing: laid · MerkleParts: laid · MerkleSizes: laid.
  DERIVED. THE GIVEN ROWS OF THIS SEAT. 6 by the template 'for every input the law returns true; each argument reads behind the call as it read before'; 0 by the template 'total and deterministic' (their statements: YtcephdkcjcbanaaDoorTotals.lean).
  GIVEN WITH THE SEED: the statements are not yours to turn. If you find one false, say at which input.
  Laid BY PROGRAM, IN A SANDBOX (cutbox-rows.mjs): the forced cells as the released guide's own fill.sh prints them over the translation bb7e1052fa82a0e8… (all of the seat's roots in one cut). By AI agents, Wed Nov 11 2026. No macro, syntax, notation, axiom, sorry.
-/
import Derived.Test.YtcephdkcjcbanaaDoorChecked
import GoSem.Claim
import GoSem.ClaimJoined
import GoSem.ClaimMapViews
import Derived.JoinedTies
import Derived.KernelRfl
namespace Go.Proofs.YtcephdkcjcbanaaDoor
/- THE CELL 'sum', in the pinned program and in every row, IS THE sha256 OF THE DUMP (.gsa) THAT YtcephdkcjcbanaaDoorProg.lean LOADS. Nothing in Lean hashes anything: it is a label: what it is worth is what the hold of that sum in a sandbox is worth. -/
noncomputable def Tryd.pinned : Pinned := { name := "ytcephdkcjcbanaadoor", sum := "bb7e1052fa82a0e8df5e3891b68f2304c665cd9b5bfe804a1e150464dc2f8b0c", checked := Tryd.checked }
namespace Rows
def none {H : Type} : Left H := { results := [], args := [] }

/- WHAT THE LISTED PACKAGE-LEVEL VARIABLES READ AS WHEN THE CALL BEGINS. Each datum BY PROGRAM (the guide's laid-datum.mjs) off the statement by which the dump's own 'gosem.cut.vars' lays the variable. In a bare row this is a premise. The card (YtcephdkcjcbanaaDoorCards.lean) ties it to the program's text. -/
def laid_attestor_sha256_initialChain {H : Type} : DataW H := .agg [.lit (.int .u32 1779033703), .lit (.int .u32 3144134277), .lit (.int .u32 1013904242), .lit (.int .u32 2773480762), .lit (.int .u32 1359893119), .lit (.int .u32 2600822924), .lit (.int .u32 528734635), .lit (.int .u32 1541459225)]
def laid_attestor_sha256_roundConstants {H : Type} : DataW H := .agg [.lit (.int .u32 1116352408), .lit (.int .u32 1899447441), .lit (.int .u32 3049323471), .lit (.int .u32 3921009573), .lit (.int .u32 961987163), .lit (.int .u32 1508970993), .lit (.int .u32 2453635748), .lit (.int .u32 2870763221), .lit (.int .u32 3624381080), .lit (.int .u32 310598401), .lit (.int .u32 607225278), .lit (.int .u32 1426881987), .lit (.int .u32 1925078388), .lit (.int .u32 2162078206), .lit (.int .u32 2614888103), .lit (.int .u32 3248222580), .lit (.int .u32 3835390401), .lit (.int .u32 4022224774), .lit (.int .u32 264347078), .lit (.int .u32 604807628), .lit (.int .u32 770255983), .lit (.int .u32 1249150122), .lit (.int .u32 1555081692), .lit (.int .u32 1996064986), .lit (.int .u32 2554220882), .lit (.int .u32 2821834349), .lit (.int .u32 2952996808), .lit (.int .u32 3210313671), .lit (.int .u32 3336571891), .lit (.int .u32 3584528711), .lit (.int .u32 113926993), .lit (.int .u32 338241895), .lit (.int .u32 666307205), .lit (.int .u32 773529912), .lit (.int .u32 1294757372), .lit (.int .u32 1396182291), .lit (.int .u32 1695183700), .lit (.int .u32 1986661051), .lit (.int .u32 2177026350), .lit (.int .u32 2456956037), .lit (.int .u32 2730485921), .lit (.int .u32 2820302411), .lit (.int .u32 3259730800), .lit (.int .u32 3345764771), .lit (.int .u32 3516065817), .lit (.int .u32 3600352804), .lit (.int .u32 4094571909), .lit (.int .u32 275423344), .lit (.int .u32 430227734), .lit (.int .u32 506948616), .lit (.int .u32 659060556), .lit (.int .u32 883997877), .lit (.int .u32 958139571), .lit (.int .u32 1322822218), .lit (.int .u32 1537002063), .lit (.int .u32 1747873779), .lit (.int .u32 1955562222), .lit (.int .u32 2024104815), .lit (.int .u32 2227730452), .lit (.int .u32 2361852424), .lit (.int .u32 2428436474), .lit (.int .u32 2756734187), .lit (.int .u32 3204031479), .lit (.int .u32 3329325298)]

/-- 'attestorlaw08.MerkleMatchesReference': WHATEVER THE INPUT: true; the input reads as it did. -/
def merkleMatchesReferenceSpec : ChangeSpec := { name := "merkleMatchesReference", fn := fun _ => fun
  | [d1, d2, d3] => { results := [.lit (.bool true)], args := [d1, d2, d3] }
  | _ => none }
def merkleMatchesReferenceRow : OpenClaim := { program := "ytcephdkcjcbanaadoor", sum := "bb7e1052fa82a0e8df5e3891b68f2304c665cd9b5bfe804a1e150464dc2f8b0c", func := "attestor/attestorlaw08.MerkleMatchesReference", spec := "merkleMatchesReference", unfollowed := true, recurses := true, named := ["attestor/sha256.initialChain", "attestor/sha256.roundConstants"], apart := false, laid := [("attestor/sha256.initialChain", laid_attestor_sha256_initialChain), ("attestor/sha256.roundConstants", laid_attestor_sha256_roundConstants)] }
def MerkleMatchesReferenceSaid : Prop := merkleMatchesReferenceRow.holds Tryd.pinned (OpenSpec.ofChange merkleMatchesReferenceSpec)

/-- ITS FALSE NEIGHBOUR: 'it returns false'. Refute it at one input. -/
def merkleMatchesReferenceWrong : ChangeSpec := { name := "merkleMatchesReference", fn := fun _ => fun
  | [d1, d2, d3] => { results := [.lit (.bool false)], args := [d1, d2, d3] }
  | _ => none }
def MerkleMatchesReferenceWrongFalsely : Prop := merkleMatchesReferenceRow.holds Tryd.pinned (OpenSpec.ofChange merkleMatchesReferenceWrong)

/-- 'attestorlaw08.MerkleChecksMatchReference': WHATEVER THE INPUT: true; the input reads as it did. -/
def merkleChecksMatchReferenceSpec : ChangeSpec := { name := "merkleChecksMatchReference", fn := fun _ => fun
  | [d1, d2, d3] => { results := [.lit (.bool true)], args := [d1, d2, d3] }
  | _ => none }
def merkleChecksMatchReferenceRow : OpenClaim := { program := "ytcephdkcjcbanaadoor", sum := "bb7e1052fa82a0e8df5e3891b68f2304c665cd9b5bfe804a1e150464dc2f8b0c", func := "attestor/attestorlaw08.MerkleChecksMatchReference", spec := "merkleChecksMatchReference", unfollowed := true, recurses := true, named := ["attestor/sha256.initialChain", "attestor/sha256.roundConstants"], apart := false, laid := [("attestor/sha256.initialChain", laid_attestor_sha256_initialChain), ("attestor/sha256.roundConstants", laid_attestor_sha256_roundConstants)] }
def MerkleChecksMatchReferenceSaid : Prop := merkleChecksMatchReferenceRow.holds Tryd.pinned (OpenSpec.ofChange merkleChecksMatchReferenceSpec)

/-- ITS FALSE NEIGHBOUR: 'it returns false'. Refute it at one input. -/
def merkleChecksMatchReferenceWrong : ChangeSpec := { name := "merkleChecksMatchReference", fn := fun _ => fun
  | [d1, d2, d3] => { results := [.lit (.bool false)], args := [d1, d2, d3] }
  | _ => none }
def MerkleChecksMatchReferenceWrongFalsely : Prop := merkleChecksMatchReferenceRow.holds Tryd.pinned (OpenSpec.ofChange merkleChecksMatchReferenceWrong)

/-- 'attestorlaw08.MerkleOpenings': WHATEVER THE INPUT: true; the input reads as it did. -/
def merkleOpeningsSpec : ChangeSpec := { name := "merkleOpenings", fn := fun _ => fun
  | [d] => { results := [.lit (.bool true)], args := [d] }
  | _ => none }
def merkleOpeningsRow : OpenClaim := { program := "ytcephdkcjcbanaadoor", sum := "bb7e1052fa82a0e8df5e3891b68f2304c665cd9b5bfe804a1e150464dc2f8b0c", func := "attestor/attestorlaw08.MerkleOpenings", spec := "merkleOpenings", unfollowed := true, recurses := true, named := ["attestor/sha256.initialChain", "attestor/sha256.roundConstants"], apart := false, laid := [("attestor/sha256.initialChain", laid_attestor_sha256_initialChain), ("attestor/sha256.roundConstants", laid_attestor_sha256_roundConstants)] }
def MerkleOpeningsSaid : Prop := merkleOpeningsRow.holds Tryd.pinned (OpenSpec.ofChange merkleOpeningsSpec)

/-- ITS FALSE NEIGHBOUR: 'it returns false'. Refute it at one input. -/
def merkleOpeningsWrong : ChangeSpec := { name := "merkleOpenings", fn := fun _ => fun
  | [d] => { results := [.lit (.bool false)], args := [d] }
  | _ => none }
def MerkleOpeningsWrongFalsely : Prop := merkleOpeningsRow.holds Tryd.pinned (OpenSpec.ofChange merkleOpeningsWrong)

/-- 'attestorlaw08.MerkleGrowing': WHATEVER THE INPUT: true; the input reads as it did. -/
def merkleGrowingSpec : ChangeSpec := { name := "merkleGrowing", fn := fun _ => fun
  | [d] => { results := [.lit (.bool true)], args := [d] }
  | _ => none }
def merkleGrowingRow : OpenClaim := { program := "ytcephdkcjcbanaadoor", sum := "bb7e1052fa82a0e8df5e3891b68f2304c665cd9b5bfe804a1e150464dc2f8b0c", func := "attestor/attestorlaw08.MerkleGrowing", spec := "merkleGrowing", unfollowed := true, recurses := true, named := ["attestor/sha256.initialChain", "attestor/sha256.roundConstants"], apart := false, laid := [("attestor/sha256.initialChain", laid_attestor_sha256_initialChain), ("attestor/sha256.roundConstants", laid_attestor_sha256_roundConstants)] }
def MerkleGrowingSaid : Prop := merkleGrowingRow.holds Tryd.pinned (OpenSpec.ofChange merkleGrowingSpec)

/-- ITS FALSE NEIGHBOUR: 'it returns false'. Refute it at one input. -/
def merkleGrowingWrong : ChangeSpec := { name := "merkleGrowing", fn := fun _ => fun
  | [d] => { results := [.lit (.bool false)], args := [d] }
  | _ => none }
def MerkleGrowingWrongFalsely : Prop := merkleGrowingRow.holds Tryd.pinned (OpenSpec.ofChange merkleGrowingWrong)

/-- 'attestorlaw08.MerkleParts': WHATEVER THE INPUT: true; the input reads as it did. -/
def merklePartsSpec : ChangeSpec := { name := "merkleParts", fn := fun _ => fun
  | [d] => { results := [.lit (.bool true)], args := [d] }
  | _ => none }
def merklePartsRow : OpenClaim := { program := "ytcephdkcjcbanaadoor", sum := "bb7e1052fa82a0e8df5e3891b68f2304c665cd9b5bfe804a1e150464dc2f8b0c", func := "attestor/attestorlaw08.MerkleParts", spec := "merkleParts", unfollowed := true, recurses := true, named := ["attestor/sha256.initialChain", "attestor/sha256.roundConstants"], apart := false, laid := [("attestor/sha256.initialChain", laid_attestor_sha256_initialChain), ("attestor/sha256.roundConstants", laid_attestor_sha256_roundConstants)] }
def MerklePartsSaid : Prop := merklePartsRow.holds Tryd.pinned (OpenSpec.ofChange merklePartsSpec)

/-- ITS FALSE NEIGHBOUR: 'it returns false'. Refute it at one input. -/
def merklePartsWrong : ChangeSpec := { name := "merkleParts", fn := fun _ => fun
  | [d] => { results := [.lit (.bool false)], args := [d] }
  | _ => none }
def MerklePartsWrongFalsely : Prop := merklePartsRow.holds Tryd.pinned (OpenSpec.ofChange merklePartsWrong)

/-- 'attestorlaw08.MerkleSizes': WHATEVER THE INPUT: true; the input reads as it did. -/
def merkleSizesSpec : ChangeSpec := { name := "merkleSizes", fn := fun _ => fun
  | [d1, d2] => { results := [.lit (.bool true)], args := [d1, d2] }
  | _ => none }
def merkleSizesRow : OpenClaim := { program := "ytcephdkcjcbanaadoor", sum := "bb7e1052fa82a0e8df5e3891b68f2304c665cd9b5bfe804a1e150464dc2f8b0c", func := "attestor/attestorlaw08.MerkleSizes", spec := "merkleSizes", unfollowed := true, recurses := true, named := ["attestor/sha256.initialChain", "attestor/sha256.roundConstants"], apart := false, laid := [("attestor/sha256.initialChain", laid_attestor_sha256_initialChain), ("attestor/sha256.roundConstants", laid_attestor_sha256_roundConstants)] }
def MerkleSizesSaid : Prop := merkleSizesRow.holds Tryd.pinned (OpenSpec.ofChange merkleSizesSpec)

/-- ITS FALSE NEIGHBOUR: 'it returns false'. Refute it at one input. -/
def merkleSizesWrong : ChangeSpec := { name := "merkleSizes", fn := fun _ => fun
  | [d1, d2] => { results := [.lit (.bool false)], args := [d1, d2] }
  | _ => none }
def MerkleSizesWrongFalsely : Prop := merkleSizesRow.holds Tryd.pinned (OpenSpec.ofChange merkleSizesWrong)

/- THE SECOND FORM. 'bulk': how many values and letters a reading holds, each counted each time it is reached (what is shared counts as often as it is met; a slice's spare places count too). A statement '..UptoSaid' is the law's where the arguments, and the package variables that the reading takes, are together of bulk at most 1048576: NARROWER than '..Said'. Prove '..Said' where nothing that the law and all that it calls make is longer than what came in: it says more and counts as full. Else prove '..UptoSaid'. A law counts once. -/
mutual
def uptoBulk {H : Type} : DataW H → Nat
  | .lit (.string bytes) => bytes.length + 1
  | .lit _ => 1
  | .nil => 1
  | .ptr d => uptoBulk d + 1
  | .slice elems spare => uptoBulkAll elems + uptoBulkAll spare + 1
  | .agg parts => uptoBulkAll parts + 1
  | .iface _ d => uptoBulk d + 1
  | .map entries => uptoBulkEntries entries + 1
  | .held _ => 1
def uptoBulkAll {H : Type} : List (DataW H) → Nat
  | [] => 0
  | d :: r => uptoBulk d + uptoBulkAll r
def uptoBulkEntries {H : Type} : List (Lit × DataW H) → Nat
  | [] => 0
  | x :: r => uptoBulkEntry x + uptoBulkEntries r
def uptoBulkEntry {H : Type} : Lit × DataW H → Nat
  | (.string bytes, d) => bytes.length + uptoBulk d + 1
  | (_, d) => uptoBulk d + 1
 end
def uptoSmall : (H : Type) → List (DataW H) → Bool := fun _ ds => decide (uptoBulkAll ds ≤ 1048576)
def OpenSpec.upto (s : _root_.Go.ChangeSpec) : _root_.Go.OpenSpec := { _root_.Go.OpenSpec.ofChange s with cond := some uptoSmall }

/-- 'attestorlaw08.MerkleMatchesReference', WHERE WHAT IT READS IS OF BULK AT MOST 1048576: true; the input reads as it did. -/
def merkleMatchesReferenceUptoRow : OpenClaim := { program := "ytcephdkcjcbanaadoor", sum := "bb7e1052fa82a0e8df5e3891b68f2304c665cd9b5bfe804a1e150464dc2f8b0c", func := "attestor/attestorlaw08.MerkleMatchesReference", spec := "merkleMatchesReference", unfollowed := true, recurses := true, named := ["attestor/sha256.initialChain", "attestor/sha256.roundConstants"], apart := false, laid := [("attestor/sha256.initialChain", laid_attestor_sha256_initialChain), ("attestor/sha256.roundConstants", laid_attestor_sha256_roundConstants)], narrowed := true }
def MerkleMatchesReferenceUptoSaid : Prop := merkleMatchesReferenceUptoRow.holds Tryd.pinned (OpenSpec.upto merkleMatchesReferenceSpec)

/-- 'attestorlaw08.MerkleChecksMatchReference', WHERE WHAT IT READS IS OF BULK AT MOST 1048576: true; the input reads as it did. -/
def merkleChecksMatchReferenceUptoRow : OpenClaim := { program := "ytcephdkcjcbanaadoor", sum := "bb7e1052fa82a0e8df5e3891b68f2304c665cd9b5bfe804a1e150464dc2f8b0c", func := "attestor/attestorlaw08.MerkleChecksMatchReference", spec := "merkleChecksMatchReference", unfollowed := true, recurses := true, named := ["attestor/sha256.initialChain", "attestor/sha256.roundConstants"], apart := false, laid := [("attestor/sha256.initialChain", laid_attestor_sha256_initialChain), ("attestor/sha256.roundConstants", laid_attestor_sha256_roundConstants)], narrowed := true }
def MerkleChecksMatchReferenceUptoSaid : Prop := merkleChecksMatchReferenceUptoRow.holds Tryd.pinned (OpenSpec.upto merkleChecksMatchReferenceSpec)

/-- 'attestorlaw08.MerkleOpenings', WHERE WHAT IT READS IS OF BULK AT MOST 1048576: true; the input reads as it did. -/
def merkleOpeningsUptoRow : OpenClaim := { program := "ytcephdkcjcbanaadoor", sum := "bb7e1052fa82a0e8df5e3891b68f2304c665cd9b5bfe804a1e150464dc2f8b0c", func := "attestor/attestorlaw08.MerkleOpenings", spec := "merkleOpenings", unfollowed := true, recurses := true, named := ["attestor/sha256.initialChain", "attestor/sha256.roundConstants"], apart := false, laid := [("attestor/sha256.initialChain", laid_attestor_sha256_initialChain), ("attestor/sha256.roundConstants", laid_attestor_sha256_roundConstants)], narrowed := true }
def MerkleOpeningsUptoSaid : Prop := merkleOpeningsUptoRow.holds Tryd.pinned (OpenSpec.upto merkleOpeningsSpec)

/-- 'attestorlaw08.MerkleGrowing', WHERE WHAT IT READS IS OF BULK AT MOST 1048576: true; the input reads as it did. -/
def merkleGrowingUptoRow : OpenClaim := { program := "ytcephdkcjcbanaadoor", sum := "bb7e1052fa82a0e8df5e3891b68f2304c665cd9b5bfe804a1e150464dc2f8b0c", func := "attestor/attestorlaw08.MerkleGrowing", spec := "merkleGrowing", unfollowed := true, recurses := true, named := ["attestor/sha256.initialChain", "attestor/sha256.roundConstants"], apart := false, laid := [("attestor/sha256.initialChain", laid_attestor_sha256_initialChain), ("attestor/sha256.roundConstants", laid_attestor_sha256_roundConstants)], narrowed := true }
def MerkleGrowingUptoSaid : Prop := merkleGrowingUptoRow.holds Tryd.pinned (OpenSpec.upto merkleGrowingSpec)

/-- 'attestorlaw08.MerkleParts', WHERE WHAT IT READS IS OF BULK AT MOST 1048576: true; the input reads as it did. -/
def merklePartsUptoRow : OpenClaim := { program := "ytcephdkcjcbanaadoor", sum := "bb7e1052fa82a0e8df5e3891b68f2304c665cd9b5bfe804a1e150464dc2f8b0c", func := "attestor/attestorlaw08.MerkleParts", spec := "merkleParts", unfollowed := true, recurses := true, named := ["attestor/sha256.initialChain", "attestor/sha256.roundConstants"], apart := false, laid := [("attestor/sha256.initialChain", laid_attestor_sha256_initialChain), ("attestor/sha256.roundConstants", laid_attestor_sha256_roundConstants)], narrowed := true }
def MerklePartsUptoSaid : Prop := merklePartsUptoRow.holds Tryd.pinned (OpenSpec.upto merklePartsSpec)

/-- 'attestorlaw08.MerkleSizes', WHERE WHAT IT READS IS OF BULK AT MOST 1048576: true; the input reads as it did. -/
def merkleSizesUptoRow : OpenClaim := { program := "ytcephdkcjcbanaadoor", sum := "bb7e1052fa82a0e8df5e3891b68f2304c665cd9b5bfe804a1e150464dc2f8b0c", func := "attestor/attestorlaw08.MerkleSizes", spec := "merkleSizes", unfollowed := true, recurses := true, named := ["attestor/sha256.initialChain", "attestor/sha256.roundConstants"], apart := false, laid := [("attestor/sha256.initialChain", laid_attestor_sha256_initialChain), ("attestor/sha256.roundConstants", laid_attestor_sha256_roundConstants)], narrowed := true }
def MerkleSizesUptoSaid : Prop := merkleSizesUptoRow.holds Tryd.pinned (OpenSpec.upto merkleSizesSpec)

end Rows
end Go.Proofs.YtcephdkcjcbanaaDoor
