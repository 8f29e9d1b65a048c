/-
  NARROWER THAN 'FOR EVERY INPUT', by the rows' own cells (each row's printed sentence says how): ShaMatchesReference: laid · ShaLengths: laid · ShaIteration: laid · ShaDomains: laid · ShaKeyed: laid · ShaTree: laid · ShaPurity: laid · ShaMillionth: laid.
  DERIVED. THE GIVEN ROWS OF THIS SEAT. 8 by the template 'for every input the law returns true; each argument reads behind the call as it read before'; 0 by the template 'total and deterministic' (their statements: YtliflbelhogopaaDoorTotals.lean).
  GIVEN WITH THE SEED: the statements are not yours to turn. If you find one false, say at which input.
  Laid BY PROGRAM, IN A SANDBOX (cutbox-rows.mjs): the forced cells as the released guide's own fill.sh prints them over the translation ae7a4c42c8f07e69… (all of the seat's roots in one cut). By AI agents, Wed Nov 11 2026. No macro, syntax, notation, axiom, sorry.
-/
import Derived.Test.YtliflbelhogopaaDoorChecked
import GoSem.Claim
import GoSem.ClaimJoined
import GoSem.ClaimMapViews
import Derived.JoinedTies
import Derived.KernelRfl
namespace Go.Proofs.YtliflbelhogopaaDoor
/- THE CELL 'sum', in the pinned program and in every row, IS THE sha256 OF THE DUMP (.gsa) THAT YtliflbelhogopaaDoorProg.lean LOADS. Nothing in Lean hashes anything: it is a label: what it is worth is what the hold of that sum in a sandbox is worth. -/
noncomputable def Tryd.pinned : Pinned := { name := "ytliflbelhogopaadoor", sum := "ae7a4c42c8f07e6979aeedd37f0d1d4e9520933ea36d63bdbbdbe10ad674ecf4", checked := Tryd.checked }
namespace Rows
def none {H : Type} : Left H := { results := [], args := [] }

/- WHAT THE LISTED PACKAGE-LEVEL VARIABLES READ AS WHEN THE CALL BEGINS. Each datum BY PROGRAM (the guide's laid-datum.mjs) off the statement by which the dump's own 'gosem.cut.vars' lays the variable. In a bare row this is a premise. The card (YtliflbelhogopaaDoorCards.lean) ties it to the program's text. -/
def laid_attestor_sha256_initialChain {H : Type} : DataW H := .agg [.lit (.int .u32 1779033703), .lit (.int .u32 3144134277), .lit (.int .u32 1013904242), .lit (.int .u32 2773480762), .lit (.int .u32 1359893119), .lit (.int .u32 2600822924), .lit (.int .u32 528734635), .lit (.int .u32 1541459225)]
def laid_attestor_sha256_roundConstants {H : Type} : DataW H := .agg [.lit (.int .u32 1116352408), .lit (.int .u32 1899447441), .lit (.int .u32 3049323471), .lit (.int .u32 3921009573), .lit (.int .u32 961987163), .lit (.int .u32 1508970993), .lit (.int .u32 2453635748), .lit (.int .u32 2870763221), .lit (.int .u32 3624381080), .lit (.int .u32 310598401), .lit (.int .u32 607225278), .lit (.int .u32 1426881987), .lit (.int .u32 1925078388), .lit (.int .u32 2162078206), .lit (.int .u32 2614888103), .lit (.int .u32 3248222580), .lit (.int .u32 3835390401), .lit (.int .u32 4022224774), .lit (.int .u32 264347078), .lit (.int .u32 604807628), .lit (.int .u32 770255983), .lit (.int .u32 1249150122), .lit (.int .u32 1555081692), .lit (.int .u32 1996064986), .lit (.int .u32 2554220882), .lit (.int .u32 2821834349), .lit (.int .u32 2952996808), .lit (.int .u32 3210313671), .lit (.int .u32 3336571891), .lit (.int .u32 3584528711), .lit (.int .u32 113926993), .lit (.int .u32 338241895), .lit (.int .u32 666307205), .lit (.int .u32 773529912), .lit (.int .u32 1294757372), .lit (.int .u32 1396182291), .lit (.int .u32 1695183700), .lit (.int .u32 1986661051), .lit (.int .u32 2177026350), .lit (.int .u32 2456956037), .lit (.int .u32 2730485921), .lit (.int .u32 2820302411), .lit (.int .u32 3259730800), .lit (.int .u32 3345764771), .lit (.int .u32 3516065817), .lit (.int .u32 3600352804), .lit (.int .u32 4094571909), .lit (.int .u32 275423344), .lit (.int .u32 430227734), .lit (.int .u32 506948616), .lit (.int .u32 659060556), .lit (.int .u32 883997877), .lit (.int .u32 958139571), .lit (.int .u32 1322822218), .lit (.int .u32 1537002063), .lit (.int .u32 1747873779), .lit (.int .u32 1955562222), .lit (.int .u32 2024104815), .lit (.int .u32 2227730452), .lit (.int .u32 2361852424), .lit (.int .u32 2428436474), .lit (.int .u32 2756734187), .lit (.int .u32 3204031479), .lit (.int .u32 3329325298)]

/-- 'attestorlaw07.ShaMatchesReference': WHATEVER THE INPUT: true; the input reads as it did. -/
def shaMatchesReferenceSpec : ChangeSpec := { name := "shaMatchesReference", fn := fun _ => fun
  | [d1, d2] => { results := [.lit (.bool true)], args := [d1, d2] }
  | _ => none }
def shaMatchesReferenceRow : OpenClaim := { program := "ytliflbelhogopaadoor", sum := "ae7a4c42c8f07e6979aeedd37f0d1d4e9520933ea36d63bdbbdbe10ad674ecf4", func := "attestor/attestorlaw07.ShaMatchesReference", spec := "shaMatchesReference", unfollowed := true, recurses := true, named := ["attestor/sha256.initialChain", "attestor/sha256.roundConstants"], apart := false, laid := [("attestor/sha256.initialChain", laid_attestor_sha256_initialChain), ("attestor/sha256.roundConstants", laid_attestor_sha256_roundConstants)] }
def ShaMatchesReferenceSaid : Prop := shaMatchesReferenceRow.holds Tryd.pinned (OpenSpec.ofChange shaMatchesReferenceSpec)

/-- ITS FALSE NEIGHBOUR: 'it returns false'. Refute it at one input. -/
def shaMatchesReferenceWrong : ChangeSpec := { name := "shaMatchesReference", fn := fun _ => fun
  | [d1, d2] => { results := [.lit (.bool false)], args := [d1, d2] }
  | _ => none }
def ShaMatchesReferenceWrongFalsely : Prop := shaMatchesReferenceRow.holds Tryd.pinned (OpenSpec.ofChange shaMatchesReferenceWrong)

/-- 'attestorlaw07.ShaLengths': WHATEVER THE INPUT: true; the input reads as it did. -/
def shaLengthsSpec : ChangeSpec := { name := "shaLengths", fn := fun _ => fun
  | [d1, d2] => { results := [.lit (.bool true)], args := [d1, d2] }
  | _ => none }
def shaLengthsRow : OpenClaim := { program := "ytliflbelhogopaadoor", sum := "ae7a4c42c8f07e6979aeedd37f0d1d4e9520933ea36d63bdbbdbe10ad674ecf4", func := "attestor/attestorlaw07.ShaLengths", spec := "shaLengths", unfollowed := true, recurses := true, named := ["attestor/sha256.initialChain", "attestor/sha256.roundConstants"], apart := false, laid := [("attestor/sha256.initialChain", laid_attestor_sha256_initialChain), ("attestor/sha256.roundConstants", laid_attestor_sha256_roundConstants)] }
def ShaLengthsSaid : Prop := shaLengthsRow.holds Tryd.pinned (OpenSpec.ofChange shaLengthsSpec)

/-- ITS FALSE NEIGHBOUR: 'it returns false'. Refute it at one input. -/
def shaLengthsWrong : ChangeSpec := { name := "shaLengths", fn := fun _ => fun
  | [d1, d2] => { results := [.lit (.bool false)], args := [d1, d2] }
  | _ => none }
def ShaLengthsWrongFalsely : Prop := shaLengthsRow.holds Tryd.pinned (OpenSpec.ofChange shaLengthsWrong)

/-- 'attestorlaw07.ShaIteration': WHATEVER THE INPUT: true; the input reads as it did. -/
def shaIterationSpec : ChangeSpec := { name := "shaIteration", fn := fun _ => fun
  | [d1, d2] => { results := [.lit (.bool true)], args := [d1, d2] }
  | _ => none }
def shaIterationRow : OpenClaim := { program := "ytliflbelhogopaadoor", sum := "ae7a4c42c8f07e6979aeedd37f0d1d4e9520933ea36d63bdbbdbe10ad674ecf4", func := "attestor/attestorlaw07.ShaIteration", spec := "shaIteration", unfollowed := true, recurses := true, named := ["attestor/sha256.initialChain", "attestor/sha256.roundConstants"], apart := false, laid := [("attestor/sha256.initialChain", laid_attestor_sha256_initialChain), ("attestor/sha256.roundConstants", laid_attestor_sha256_roundConstants)] }
def ShaIterationSaid : Prop := shaIterationRow.holds Tryd.pinned (OpenSpec.ofChange shaIterationSpec)

/-- ITS FALSE NEIGHBOUR: 'it returns false'. Refute it at one input. -/
def shaIterationWrong : ChangeSpec := { name := "shaIteration", fn := fun _ => fun
  | [d1, d2] => { results := [.lit (.bool false)], args := [d1, d2] }
  | _ => none }
def ShaIterationWrongFalsely : Prop := shaIterationRow.holds Tryd.pinned (OpenSpec.ofChange shaIterationWrong)

/-- 'attestorlaw07.ShaDomains': WHATEVER THE INPUT: true; the input reads as it did. -/
def shaDomainsSpec : ChangeSpec := { name := "shaDomains", fn := fun _ => fun
  | [d1, d2] => { results := [.lit (.bool true)], args := [d1, d2] }
  | _ => none }
def shaDomainsRow : OpenClaim := { program := "ytliflbelhogopaadoor", sum := "ae7a4c42c8f07e6979aeedd37f0d1d4e9520933ea36d63bdbbdbe10ad674ecf4", func := "attestor/attestorlaw07.ShaDomains", spec := "shaDomains", unfollowed := true, recurses := true, named := ["attestor/sha256.initialChain", "attestor/sha256.roundConstants"], apart := false, laid := [("attestor/sha256.initialChain", laid_attestor_sha256_initialChain), ("attestor/sha256.roundConstants", laid_attestor_sha256_roundConstants)] }
def ShaDomainsSaid : Prop := shaDomainsRow.holds Tryd.pinned (OpenSpec.ofChange shaDomainsSpec)

/-- ITS FALSE NEIGHBOUR: 'it returns false'. Refute it at one input. -/
def shaDomainsWrong : ChangeSpec := { name := "shaDomains", fn := fun _ => fun
  | [d1, d2] => { results := [.lit (.bool false)], args := [d1, d2] }
  | _ => none }
def ShaDomainsWrongFalsely : Prop := shaDomainsRow.holds Tryd.pinned (OpenSpec.ofChange shaDomainsWrong)

/-- 'attestorlaw07.ShaKeyed': WHATEVER THE INPUT: true; the input reads as it did. -/
def shaKeyedSpec : ChangeSpec := { name := "shaKeyed", fn := fun _ => fun
  | [d1, d2] => { results := [.lit (.bool true)], args := [d1, d2] }
  | _ => none }
def shaKeyedRow : OpenClaim := { program := "ytliflbelhogopaadoor", sum := "ae7a4c42c8f07e6979aeedd37f0d1d4e9520933ea36d63bdbbdbe10ad674ecf4", func := "attestor/attestorlaw07.ShaKeyed", spec := "shaKeyed", unfollowed := true, recurses := true, named := ["attestor/sha256.initialChain", "attestor/sha256.roundConstants"], apart := false, laid := [("attestor/sha256.initialChain", laid_attestor_sha256_initialChain), ("attestor/sha256.roundConstants", laid_attestor_sha256_roundConstants)] }
def ShaKeyedSaid : Prop := shaKeyedRow.holds Tryd.pinned (OpenSpec.ofChange shaKeyedSpec)

/-- ITS FALSE NEIGHBOUR: 'it returns false'. Refute it at one input. -/
def shaKeyedWrong : ChangeSpec := { name := "shaKeyed", fn := fun _ => fun
  | [d1, d2] => { results := [.lit (.bool false)], args := [d1, d2] }
  | _ => none }
def ShaKeyedWrongFalsely : Prop := shaKeyedRow.holds Tryd.pinned (OpenSpec.ofChange shaKeyedWrong)

/-- 'attestorlaw07.ShaTree': WHATEVER THE INPUT: true; the input reads as it did. -/
def shaTreeSpec : ChangeSpec := { name := "shaTree", fn := fun _ => fun
  | [d] => { results := [.lit (.bool true)], args := [d] }
  | _ => none }
def shaTreeRow : OpenClaim := { program := "ytliflbelhogopaadoor", sum := "ae7a4c42c8f07e6979aeedd37f0d1d4e9520933ea36d63bdbbdbe10ad674ecf4", func := "attestor/attestorlaw07.ShaTree", spec := "shaTree", unfollowed := true, recurses := true, named := ["attestor/sha256.initialChain", "attestor/sha256.roundConstants"], apart := false, laid := [("attestor/sha256.initialChain", laid_attestor_sha256_initialChain), ("attestor/sha256.roundConstants", laid_attestor_sha256_roundConstants)] }
def ShaTreeSaid : Prop := shaTreeRow.holds Tryd.pinned (OpenSpec.ofChange shaTreeSpec)

/-- ITS FALSE NEIGHBOUR: 'it returns false'. Refute it at one input. -/
def shaTreeWrong : ChangeSpec := { name := "shaTree", fn := fun _ => fun
  | [d] => { results := [.lit (.bool false)], args := [d] }
  | _ => none }
def ShaTreeWrongFalsely : Prop := shaTreeRow.holds Tryd.pinned (OpenSpec.ofChange shaTreeWrong)

/-- 'attestorlaw07.ShaPurity': WHATEVER THE INPUT: true; the input reads as it did. -/
def shaPuritySpec : ChangeSpec := { name := "shaPurity", fn := fun _ => fun
  | [d1, d2, d3] => { results := [.lit (.bool true)], args := [d1, d2, d3] }
  | _ => none }
def shaPurityRow : OpenClaim := { program := "ytliflbelhogopaadoor", sum := "ae7a4c42c8f07e6979aeedd37f0d1d4e9520933ea36d63bdbbdbe10ad674ecf4", func := "attestor/attestorlaw07.ShaPurity", spec := "shaPurity", unfollowed := true, recurses := true, named := ["attestor/sha256.initialChain", "attestor/sha256.roundConstants"], apart := false, laid := [("attestor/sha256.initialChain", laid_attestor_sha256_initialChain), ("attestor/sha256.roundConstants", laid_attestor_sha256_roundConstants)] }
def ShaPuritySaid : Prop := shaPurityRow.holds Tryd.pinned (OpenSpec.ofChange shaPuritySpec)

/-- ITS FALSE NEIGHBOUR: 'it returns false'. Refute it at one input. -/
def shaPurityWrong : ChangeSpec := { name := "shaPurity", fn := fun _ => fun
  | [d1, d2, d3] => { results := [.lit (.bool false)], args := [d1, d2, d3] }
  | _ => none }
def ShaPurityWrongFalsely : Prop := shaPurityRow.holds Tryd.pinned (OpenSpec.ofChange shaPurityWrong)

/-- 'attestorlaw07.ShaMillionth': WHATEVER THE INPUT: true; the input reads as it did. -/
def shaMillionthSpec : ChangeSpec := { name := "shaMillionth", fn := fun _ => fun
  | [d] => { results := [.lit (.bool true)], args := [d] }
  | _ => none }
def shaMillionthRow : OpenClaim := { program := "ytliflbelhogopaadoor", sum := "ae7a4c42c8f07e6979aeedd37f0d1d4e9520933ea36d63bdbbdbe10ad674ecf4", func := "attestor/attestorlaw07.ShaMillionth", spec := "shaMillionth", unfollowed := true, recurses := true, named := ["attestor/sha256.initialChain", "attestor/sha256.roundConstants"], apart := false, laid := [("attestor/sha256.initialChain", laid_attestor_sha256_initialChain), ("attestor/sha256.roundConstants", laid_attestor_sha256_roundConstants)] }
def ShaMillionthSaid : Prop := shaMillionthRow.holds Tryd.pinned (OpenSpec.ofChange shaMillionthSpec)

/-- ITS FALSE NEIGHBOUR: 'it returns false'. Refute it at one input. -/
def shaMillionthWrong : ChangeSpec := { name := "shaMillionth", fn := fun _ => fun
  | [d] => { results := [.lit (.bool false)], args := [d] }
  | _ => none }
def ShaMillionthWrongFalsely : Prop := shaMillionthRow.holds Tryd.pinned (OpenSpec.ofChange shaMillionthWrong)

/- THE SECOND FORM. 'bulk': how many values and letters a reading holds, each counted each time it is reached (what is shared counts as often as it is met; a slice's spare places count too). A statement '..UptoSaid' is the law's where the arguments, and the package variables that the reading takes, are together of bulk at most 1048576: NARROWER than '..Said'. Prove '..Said' where nothing that the law and all that it calls make is longer than what came in: it says more and counts as full. Else prove '..UptoSaid'. A law counts once. -/
mutual
def uptoBulk {H : Type} : DataW H → Nat
  | .lit (.string bytes) => bytes.length + 1
  | .lit _ => 1
  | .nil => 1
  | .ptr d => uptoBulk d + 1
  | .slice elems spare => uptoBulkAll elems + uptoBulkAll spare + 1
  | .agg parts => uptoBulkAll parts + 1
  | .iface _ d => uptoBulk d + 1
  | .map entries => uptoBulkEntries entries + 1
  | .held _ => 1
def uptoBulkAll {H : Type} : List (DataW H) → Nat
  | [] => 0
  | d :: r => uptoBulk d + uptoBulkAll r
def uptoBulkEntries {H : Type} : List (Lit × DataW H) → Nat
  | [] => 0
  | x :: r => uptoBulkEntry x + uptoBulkEntries r
def uptoBulkEntry {H : Type} : Lit × DataW H → Nat
  | (.string bytes, d) => bytes.length + uptoBulk d + 1
  | (_, d) => uptoBulk d + 1
 end
def uptoSmall : (H : Type) → List (DataW H) → Bool := fun _ ds => decide (uptoBulkAll ds ≤ 1048576)
def OpenSpec.upto (s : _root_.Go.ChangeSpec) : _root_.Go.OpenSpec := { _root_.Go.OpenSpec.ofChange s with cond := some uptoSmall }

/-- 'attestorlaw07.ShaMatchesReference', WHERE WHAT IT READS IS OF BULK AT MOST 1048576: true; the input reads as it did. -/
def shaMatchesReferenceUptoRow : OpenClaim := { program := "ytliflbelhogopaadoor", sum := "ae7a4c42c8f07e6979aeedd37f0d1d4e9520933ea36d63bdbbdbe10ad674ecf4", func := "attestor/attestorlaw07.ShaMatchesReference", spec := "shaMatchesReference", unfollowed := true, recurses := true, named := ["attestor/sha256.initialChain", "attestor/sha256.roundConstants"], apart := false, laid := [("attestor/sha256.initialChain", laid_attestor_sha256_initialChain), ("attestor/sha256.roundConstants", laid_attestor_sha256_roundConstants)], narrowed := true }
def ShaMatchesReferenceUptoSaid : Prop := shaMatchesReferenceUptoRow.holds Tryd.pinned (OpenSpec.upto shaMatchesReferenceSpec)

/-- 'attestorlaw07.ShaLengths', WHERE WHAT IT READS IS OF BULK AT MOST 1048576: true; the input reads as it did. -/
def shaLengthsUptoRow : OpenClaim := { program := "ytliflbelhogopaadoor", sum := "ae7a4c42c8f07e6979aeedd37f0d1d4e9520933ea36d63bdbbdbe10ad674ecf4", func := "attestor/attestorlaw07.ShaLengths", spec := "shaLengths", unfollowed := true, recurses := true, named := ["attestor/sha256.initialChain", "attestor/sha256.roundConstants"], apart := false, laid := [("attestor/sha256.initialChain", laid_attestor_sha256_initialChain), ("attestor/sha256.roundConstants", laid_attestor_sha256_roundConstants)], narrowed := true }
def ShaLengthsUptoSaid : Prop := shaLengthsUptoRow.holds Tryd.pinned (OpenSpec.upto shaLengthsSpec)

/-- 'attestorlaw07.ShaIteration', WHERE WHAT IT READS IS OF BULK AT MOST 1048576: true; the input reads as it did. -/
def shaIterationUptoRow : OpenClaim := { program := "ytliflbelhogopaadoor", sum := "ae7a4c42c8f07e6979aeedd37f0d1d4e9520933ea36d63bdbbdbe10ad674ecf4", func := "attestor/attestorlaw07.ShaIteration", spec := "shaIteration", unfollowed := true, recurses := true, named := ["attestor/sha256.initialChain", "attestor/sha256.roundConstants"], apart := false, laid := [("attestor/sha256.initialChain", laid_attestor_sha256_initialChain), ("attestor/sha256.roundConstants", laid_attestor_sha256_roundConstants)], narrowed := true }
def ShaIterationUptoSaid : Prop := shaIterationUptoRow.holds Tryd.pinned (OpenSpec.upto shaIterationSpec)

/-- 'attestorlaw07.ShaDomains', WHERE WHAT IT READS IS OF BULK AT MOST 1048576: true; the input reads as it did. -/
def shaDomainsUptoRow : OpenClaim := { program := "ytliflbelhogopaadoor", sum := "ae7a4c42c8f07e6979aeedd37f0d1d4e9520933ea36d63bdbbdbe10ad674ecf4", func := "attestor/attestorlaw07.ShaDomains", spec := "shaDomains", unfollowed := true, recurses := true, named := ["attestor/sha256.initialChain", "attestor/sha256.roundConstants"], apart := false, laid := [("attestor/sha256.initialChain", laid_attestor_sha256_initialChain), ("attestor/sha256.roundConstants", laid_attestor_sha256_roundConstants)], narrowed := true }
def ShaDomainsUptoSaid : Prop := shaDomainsUptoRow.holds Tryd.pinned (OpenSpec.upto shaDomainsSpec)

/-- 'attestorlaw07.ShaKeyed', WHERE WHAT IT READS IS OF BULK AT MOST 1048576: true; the input reads as it did. -/
def shaKeyedUptoRow : OpenClaim := { program := "ytliflbelhogopaadoor", sum := "ae7a4c42c8f07e6979aeedd37f0d1d4e9520933ea36d63bdbbdbe10ad674ecf4", func := "attestor/attestorlaw07.ShaKeyed", spec := "shaKeyed", unfollowed := true, recurses := true, named := ["attestor/sha256.initialChain", "attestor/sha256.roundConstants"], apart := false, laid := [("attestor/sha256.initialChain", laid_attestor_sha256_initialChain), ("attestor/sha256.roundConstants", laid_attestor_sha256_roundConstants)], narrowed := true }
def ShaKeyedUptoSaid : Prop := shaKeyedUptoRow.holds Tryd.pinned (OpenSpec.upto shaKeyedSpec)

/-- 'attestorlaw07.ShaTree', WHERE WHAT IT READS IS OF BULK AT MOST 1048576: true; the input reads as it did. -/
def shaTreeUptoRow : OpenClaim := { program := "ytliflbelhogopaadoor", sum := "ae7a4c42c8f07e6979aeedd37f0d1d4e9520933ea36d63bdbbdbe10ad674ecf4", func := "attestor/attestorlaw07.ShaTree", spec := "shaTree", unfollowed := true, recurses := true, named := ["attestor/sha256.initialChain", "attestor/sha256.roundConstants"], apart := false, laid := [("attestor/sha256.initialChain", laid_attestor_sha256_initialChain), ("attestor/sha256.roundConstants", laid_attestor_sha256_roundConstants)], narrowed := true }
def ShaTreeUptoSaid : Prop := shaTreeUptoRow.holds Tryd.pinned (OpenSpec.upto shaTreeSpec)

/-- 'attestorlaw07.ShaPurity', WHERE WHAT IT READS IS OF BULK AT MOST 1048576: true; the input reads as it did. -/
def shaPurityUptoRow : OpenClaim := { program := "ytliflbelhogopaadoor", sum := "ae7a4c42c8f07e6979aeedd37f0d1d4e9520933ea36d63bdbbdbe10ad674ecf4", func := "attestor/attestorlaw07.ShaPurity", spec := "shaPurity", unfollowed := true, recurses := true, named := ["attestor/sha256.initialChain", "attestor/sha256.roundConstants"], apart := false, laid := [("attestor/sha256.initialChain", laid_attestor_sha256_initialChain), ("attestor/sha256.roundConstants", laid_attestor_sha256_roundConstants)], narrowed := true }
def ShaPurityUptoSaid : Prop := shaPurityUptoRow.holds Tryd.pinned (OpenSpec.upto shaPuritySpec)

/-- 'attestorlaw07.ShaMillionth', WHERE WHAT IT READS IS OF BULK AT MOST 1048576: true; the input reads as it did. -/
def shaMillionthUptoRow : OpenClaim := { program := "ytliflbelhogopaadoor", sum := "ae7a4c42c8f07e6979aeedd37f0d1d4e9520933ea36d63bdbbdbe10ad674ecf4", func := "attestor/attestorlaw07.ShaMillionth", spec := "shaMillionth", unfollowed := true, recurses := true, named := ["attestor/sha256.initialChain", "attestor/sha256.roundConstants"], apart := false, laid := [("attestor/sha256.initialChain", laid_attestor_sha256_initialChain), ("attestor/sha256.roundConstants", laid_attestor_sha256_roundConstants)], narrowed := true }
def ShaMillionthUptoSaid : Prop := shaMillionthUptoRow.holds Tryd.pinned (OpenSpec.upto shaMillionthSpec)

end Rows
end Go.Proofs.YtliflbelhogopaaDoor
