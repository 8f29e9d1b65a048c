/-
  NARROWER THAN 'FOR EVERY INPUT', by the rows' own cells (each row's printed sentence says how): QueryMatchesReference: laid · QueryParseMatchesReference: laid · QueryRoundTrip: laid · QueryParsedValid: laid · QueryWhiteSpace: laid · QueryEquals: laid · QueryFilters: laid · QueryRanges: laid.
  DERIVED. THE GIVEN ROWS OF THIS SEAT. 8 by the template 'for every input the law returns true; each argument reads behind the call as it read before'; 0 by the template 'total and deterministic' (their statements: YtlicfidcfhbmpaaDoorTotals.lean).
  GIVEN WITH THE SEED: the statements are not yours to turn. If you find one false, say at which input.
  Laid BY PROGRAM, IN A SANDBOX (cutbox-rows.mjs): the forced cells as the released guide's own fill.sh prints them over the translation 9f78c2751ececd19… (all of the seat's roots in one cut). By AI agents, Wed Nov 11 2026. No macro, syntax, notation, axiom, sorry.
-/
import Derived.Test.YtlicfidcfhbmpaaDoorChecked
import GoSem.Claim
import GoSem.ClaimJoined
import GoSem.ClaimMapViews
import Derived.JoinedTies
import Derived.KernelRfl
namespace Go.Proofs.YtlicfidcfhbmpaaDoor
/- THE CELL 'sum', in the pinned program and in every row, IS THE sha256 OF THE DUMP (.gsa) THAT YtlicfidcfhbmpaaDoorProg.lean LOADS. Nothing in Lean hashes anything: it is a label: what it is worth is what the hold of that sum in a sandbox is worth. -/
noncomputable def Tryd.pinned : Pinned := { name := "ytlicfidcfhbmpaadoor", sum := "9f78c2751ececd19156f44f4c5c2b1f3c2e9435b7f4edc8623b712d4a0a1620f", checked := Tryd.checked }
namespace Rows
def none {H : Type} : Left H := { results := [], args := [] }

/- WHAT THE LISTED PACKAGE-LEVEL VARIABLES READ AS WHEN THE CALL BEGINS. Each datum BY PROGRAM (the guide's laid-datum.mjs) off the statement by which the dump's own 'gosem.cut.vars' lays the variable. In a bare row this is a premise. The card (YtlicfidcfhbmpaaDoorCards.lean) ties it to the program's text. -/
def laid_attestor_query_columns {H : Type} : DataW H := .agg [.agg [.lit (.string [119, 104, 111]), .lit (.int .i64 15)], .agg [.lit (.string [119, 104, 101, 110]), .lit (.int .i64 255)], .agg [.lit (.string [107, 105, 110, 100]), .lit (.int .i64 15)], .agg [.lit (.string [118, 97, 108, 117, 101]), .lit (.int .i64 255)]]

/-- 'attestorlaw13.QueryMatchesReference': WHATEVER THE INPUT: true; the input reads as it did. -/
def queryMatchesReferenceSpec : ChangeSpec := { name := "queryMatchesReference", fn := fun _ => fun
  | [d1, d2] => { results := [.lit (.bool true)], args := [d1, d2] }
  | _ => none }
def queryMatchesReferenceRow : OpenClaim := { program := "ytlicfidcfhbmpaadoor", sum := "9f78c2751ececd19156f44f4c5c2b1f3c2e9435b7f4edc8623b712d4a0a1620f", func := "attestor/attestorlaw13.QueryMatchesReference", spec := "queryMatchesReference", unfollowed := true, recurses := true, named := ["attestor/query.columns"], apart := false, laid := [("attestor/query.columns", laid_attestor_query_columns)] }
def QueryMatchesReferenceSaid : Prop := queryMatchesReferenceRow.holds Tryd.pinned (OpenSpec.ofChange queryMatchesReferenceSpec)

/-- ITS FALSE NEIGHBOUR: 'it returns false'. Refute it at one input. -/
def queryMatchesReferenceWrong : ChangeSpec := { name := "queryMatchesReference", fn := fun _ => fun
  | [d1, d2] => { results := [.lit (.bool false)], args := [d1, d2] }
  | _ => none }
def QueryMatchesReferenceWrongFalsely : Prop := queryMatchesReferenceRow.holds Tryd.pinned (OpenSpec.ofChange queryMatchesReferenceWrong)

/-- 'attestorlaw13.QueryParseMatchesReference': WHATEVER THE INPUT: true; the input reads as it did. -/
def queryParseMatchesReferenceSpec : ChangeSpec := { name := "queryParseMatchesReference", fn := fun _ => fun
  | [d] => { results := [.lit (.bool true)], args := [d] }
  | _ => none }
def queryParseMatchesReferenceRow : OpenClaim := { program := "ytlicfidcfhbmpaadoor", sum := "9f78c2751ececd19156f44f4c5c2b1f3c2e9435b7f4edc8623b712d4a0a1620f", func := "attestor/attestorlaw13.QueryParseMatchesReference", spec := "queryParseMatchesReference", unfollowed := true, recurses := true, named := ["attestor/query.columns"], apart := false, laid := [("attestor/query.columns", laid_attestor_query_columns)] }
def QueryParseMatchesReferenceSaid : Prop := queryParseMatchesReferenceRow.holds Tryd.pinned (OpenSpec.ofChange queryParseMatchesReferenceSpec)

/-- ITS FALSE NEIGHBOUR: 'it returns false'. Refute it at one input. -/
def queryParseMatchesReferenceWrong : ChangeSpec := { name := "queryParseMatchesReference", fn := fun _ => fun
  | [d] => { results := [.lit (.bool false)], args := [d] }
  | _ => none }
def QueryParseMatchesReferenceWrongFalsely : Prop := queryParseMatchesReferenceRow.holds Tryd.pinned (OpenSpec.ofChange queryParseMatchesReferenceWrong)

/-- 'attestorlaw13.QueryRoundTrip': WHATEVER THE INPUT: true; the input reads as it did. -/
def queryRoundTripSpec : ChangeSpec := { name := "queryRoundTrip", fn := fun _ => fun
  | [d] => { results := [.lit (.bool true)], args := [d] }
  | _ => none }
def queryRoundTripRow : OpenClaim := { program := "ytlicfidcfhbmpaadoor", sum := "9f78c2751ececd19156f44f4c5c2b1f3c2e9435b7f4edc8623b712d4a0a1620f", func := "attestor/attestorlaw13.QueryRoundTrip", spec := "queryRoundTrip", unfollowed := true, recurses := true, named := ["attestor/query.columns"], apart := false, laid := [("attestor/query.columns", laid_attestor_query_columns)] }
def QueryRoundTripSaid : Prop := queryRoundTripRow.holds Tryd.pinned (OpenSpec.ofChange queryRoundTripSpec)

/-- ITS FALSE NEIGHBOUR: 'it returns false'. Refute it at one input. -/
def queryRoundTripWrong : ChangeSpec := { name := "queryRoundTrip", fn := fun _ => fun
  | [d] => { results := [.lit (.bool false)], args := [d] }
  | _ => none }
def QueryRoundTripWrongFalsely : Prop := queryRoundTripRow.holds Tryd.pinned (OpenSpec.ofChange queryRoundTripWrong)

/-- 'attestorlaw13.QueryParsedValid': WHATEVER THE INPUT: true; the input reads as it did. -/
def queryParsedValidSpec : ChangeSpec := { name := "queryParsedValid", fn := fun _ => fun
  | [d] => { results := [.lit (.bool true)], args := [d] }
  | _ => none }
def queryParsedValidRow : OpenClaim := { program := "ytlicfidcfhbmpaadoor", sum := "9f78c2751ececd19156f44f4c5c2b1f3c2e9435b7f4edc8623b712d4a0a1620f", func := "attestor/attestorlaw13.QueryParsedValid", spec := "queryParsedValid", unfollowed := true, recurses := true, named := ["attestor/query.columns"], apart := false, laid := [("attestor/query.columns", laid_attestor_query_columns)] }
def QueryParsedValidSaid : Prop := queryParsedValidRow.holds Tryd.pinned (OpenSpec.ofChange queryParsedValidSpec)

/-- ITS FALSE NEIGHBOUR: 'it returns false'. Refute it at one input. -/
def queryParsedValidWrong : ChangeSpec := { name := "queryParsedValid", fn := fun _ => fun
  | [d] => { results := [.lit (.bool false)], args := [d] }
  | _ => none }
def QueryParsedValidWrongFalsely : Prop := queryParsedValidRow.holds Tryd.pinned (OpenSpec.ofChange queryParsedValidWrong)

/-- 'attestorlaw13.QueryWhiteSpace': WHATEVER THE INPUT: true; the input reads as it did. -/
def queryWhiteSpaceSpec : ChangeSpec := { name := "queryWhiteSpace", fn := fun _ => fun
  | [d1, d2] => { results := [.lit (.bool true)], args := [d1, d2] }
  | _ => none }
def queryWhiteSpaceRow : OpenClaim := { program := "ytlicfidcfhbmpaadoor", sum := "9f78c2751ececd19156f44f4c5c2b1f3c2e9435b7f4edc8623b712d4a0a1620f", func := "attestor/attestorlaw13.QueryWhiteSpace", spec := "queryWhiteSpace", unfollowed := true, recurses := true, named := ["attestor/query.columns"], apart := false, laid := [("attestor/query.columns", laid_attestor_query_columns)] }
def QueryWhiteSpaceSaid : Prop := queryWhiteSpaceRow.holds Tryd.pinned (OpenSpec.ofChange queryWhiteSpaceSpec)

/-- ITS FALSE NEIGHBOUR: 'it returns false'. Refute it at one input. -/
def queryWhiteSpaceWrong : ChangeSpec := { name := "queryWhiteSpace", fn := fun _ => fun
  | [d1, d2] => { results := [.lit (.bool false)], args := [d1, d2] }
  | _ => none }
def QueryWhiteSpaceWrongFalsely : Prop := queryWhiteSpaceRow.holds Tryd.pinned (OpenSpec.ofChange queryWhiteSpaceWrong)

/-- 'attestorlaw13.QueryEquals': WHATEVER THE INPUT: true; the input reads as it did. -/
def queryEqualsSpec : ChangeSpec := { name := "queryEquals", fn := fun _ => fun
  | [d1, d2, d3] => { results := [.lit (.bool true)], args := [d1, d2, d3] }
  | _ => none }
def queryEqualsRow : OpenClaim := { program := "ytlicfidcfhbmpaadoor", sum := "9f78c2751ececd19156f44f4c5c2b1f3c2e9435b7f4edc8623b712d4a0a1620f", func := "attestor/attestorlaw13.QueryEquals", spec := "queryEquals", unfollowed := true, recurses := true, named := ["attestor/query.columns"], apart := false, laid := [("attestor/query.columns", laid_attestor_query_columns)] }
def QueryEqualsSaid : Prop := queryEqualsRow.holds Tryd.pinned (OpenSpec.ofChange queryEqualsSpec)

/-- ITS FALSE NEIGHBOUR: 'it returns false'. Refute it at one input. -/
def queryEqualsWrong : ChangeSpec := { name := "queryEquals", fn := fun _ => fun
  | [d1, d2, d3] => { results := [.lit (.bool false)], args := [d1, d2, d3] }
  | _ => none }
def QueryEqualsWrongFalsely : Prop := queryEqualsRow.holds Tryd.pinned (OpenSpec.ofChange queryEqualsWrong)

/-- 'attestorlaw13.QueryFilters': WHATEVER THE INPUT: true; the input reads as it did. -/
def queryFiltersSpec : ChangeSpec := { name := "queryFilters", fn := fun _ => fun
  | [d1, d2, d3] => { results := [.lit (.bool true)], args := [d1, d2, d3] }
  | _ => none }
def queryFiltersRow : OpenClaim := { program := "ytlicfidcfhbmpaadoor", sum := "9f78c2751ececd19156f44f4c5c2b1f3c2e9435b7f4edc8623b712d4a0a1620f", func := "attestor/attestorlaw13.QueryFilters", spec := "queryFilters", unfollowed := true, recurses := true, named := ["attestor/query.columns"], apart := false, laid := [("attestor/query.columns", laid_attestor_query_columns)] }
def QueryFiltersSaid : Prop := queryFiltersRow.holds Tryd.pinned (OpenSpec.ofChange queryFiltersSpec)

/-- ITS FALSE NEIGHBOUR: 'it returns false'. Refute it at one input. -/
def queryFiltersWrong : ChangeSpec := { name := "queryFilters", fn := fun _ => fun
  | [d1, d2, d3] => { results := [.lit (.bool false)], args := [d1, d2, d3] }
  | _ => none }
def QueryFiltersWrongFalsely : Prop := queryFiltersRow.holds Tryd.pinned (OpenSpec.ofChange queryFiltersWrong)

/-- 'attestorlaw13.QueryRanges': WHATEVER THE INPUT: true; the input reads as it did. -/
def queryRangesSpec : ChangeSpec := { name := "queryRanges", fn := fun _ => fun
  | [d1, d2] => { results := [.lit (.bool true)], args := [d1, d2] }
  | _ => none }
def queryRangesRow : OpenClaim := { program := "ytlicfidcfhbmpaadoor", sum := "9f78c2751ececd19156f44f4c5c2b1f3c2e9435b7f4edc8623b712d4a0a1620f", func := "attestor/attestorlaw13.QueryRanges", spec := "queryRanges", unfollowed := true, recurses := true, named := ["attestor/query.columns"], apart := false, laid := [("attestor/query.columns", laid_attestor_query_columns)] }
def QueryRangesSaid : Prop := queryRangesRow.holds Tryd.pinned (OpenSpec.ofChange queryRangesSpec)

/-- ITS FALSE NEIGHBOUR: 'it returns false'. Refute it at one input. -/
def queryRangesWrong : ChangeSpec := { name := "queryRanges", fn := fun _ => fun
  | [d1, d2] => { results := [.lit (.bool false)], args := [d1, d2] }
  | _ => none }
def QueryRangesWrongFalsely : Prop := queryRangesRow.holds Tryd.pinned (OpenSpec.ofChange queryRangesWrong)

/- THE SECOND FORM. 'bulk': how many values and letters a reading holds, each counted each time it is reached (what is shared counts as often as it is met; a slice's spare places count too). A statement '..UptoSaid' is the law's where the arguments, and the package variables that the reading takes, are together of bulk at most 1048576: NARROWER than '..Said'. Prove '..Said' where nothing that the law and all that it calls make is longer than what came in: it says more and counts as full. Else prove '..UptoSaid'. A law counts once. -/
mutual
def uptoBulk {H : Type} : DataW H → Nat
  | .lit (.string bytes) => bytes.length + 1
  | .lit _ => 1
  | .nil => 1
  | .ptr d => uptoBulk d + 1
  | .slice elems spare => uptoBulkAll elems + uptoBulkAll spare + 1
  | .agg parts => uptoBulkAll parts + 1
  | .iface _ d => uptoBulk d + 1
  | .map entries => uptoBulkEntries entries + 1
  | .held _ => 1
def uptoBulkAll {H : Type} : List (DataW H) → Nat
  | [] => 0
  | d :: r => uptoBulk d + uptoBulkAll r
def uptoBulkEntries {H : Type} : List (Lit × DataW H) → Nat
  | [] => 0
  | x :: r => uptoBulkEntry x + uptoBulkEntries r
def uptoBulkEntry {H : Type} : Lit × DataW H → Nat
  | (.string bytes, d) => bytes.length + uptoBulk d + 1
  | (_, d) => uptoBulk d + 1
 end
def uptoSmall : (H : Type) → List (DataW H) → Bool := fun _ ds => decide (uptoBulkAll ds ≤ 1048576)
def OpenSpec.upto (s : _root_.Go.ChangeSpec) : _root_.Go.OpenSpec := { _root_.Go.OpenSpec.ofChange s with cond := some uptoSmall }

/-- 'attestorlaw13.QueryMatchesReference', WHERE WHAT IT READS IS OF BULK AT MOST 1048576: true; the input reads as it did. -/
def queryMatchesReferenceUptoRow : OpenClaim := { program := "ytlicfidcfhbmpaadoor", sum := "9f78c2751ececd19156f44f4c5c2b1f3c2e9435b7f4edc8623b712d4a0a1620f", func := "attestor/attestorlaw13.QueryMatchesReference", spec := "queryMatchesReference", unfollowed := true, recurses := true, named := ["attestor/query.columns"], apart := false, laid := [("attestor/query.columns", laid_attestor_query_columns)], narrowed := true }
def QueryMatchesReferenceUptoSaid : Prop := queryMatchesReferenceUptoRow.holds Tryd.pinned (OpenSpec.upto queryMatchesReferenceSpec)

/-- 'attestorlaw13.QueryParseMatchesReference', WHERE WHAT IT READS IS OF BULK AT MOST 1048576: true; the input reads as it did. -/
def queryParseMatchesReferenceUptoRow : OpenClaim := { program := "ytlicfidcfhbmpaadoor", sum := "9f78c2751ececd19156f44f4c5c2b1f3c2e9435b7f4edc8623b712d4a0a1620f", func := "attestor/attestorlaw13.QueryParseMatchesReference", spec := "queryParseMatchesReference", unfollowed := true, recurses := true, named := ["attestor/query.columns"], apart := false, laid := [("attestor/query.columns", laid_attestor_query_columns)], narrowed := true }
def QueryParseMatchesReferenceUptoSaid : Prop := queryParseMatchesReferenceUptoRow.holds Tryd.pinned (OpenSpec.upto queryParseMatchesReferenceSpec)

/-- 'attestorlaw13.QueryRoundTrip', WHERE WHAT IT READS IS OF BULK AT MOST 1048576: true; the input reads as it did. -/
def queryRoundTripUptoRow : OpenClaim := { program := "ytlicfidcfhbmpaadoor", sum := "9f78c2751ececd19156f44f4c5c2b1f3c2e9435b7f4edc8623b712d4a0a1620f", func := "attestor/attestorlaw13.QueryRoundTrip", spec := "queryRoundTrip", unfollowed := true, recurses := true, named := ["attestor/query.columns"], apart := false, laid := [("attestor/query.columns", laid_attestor_query_columns)], narrowed := true }
def QueryRoundTripUptoSaid : Prop := queryRoundTripUptoRow.holds Tryd.pinned (OpenSpec.upto queryRoundTripSpec)

/-- 'attestorlaw13.QueryParsedValid', WHERE WHAT IT READS IS OF BULK AT MOST 1048576: true; the input reads as it did. -/
def queryParsedValidUptoRow : OpenClaim := { program := "ytlicfidcfhbmpaadoor", sum := "9f78c2751ececd19156f44f4c5c2b1f3c2e9435b7f4edc8623b712d4a0a1620f", func := "attestor/attestorlaw13.QueryParsedValid", spec := "queryParsedValid", unfollowed := true, recurses := true, named := ["attestor/query.columns"], apart := false, laid := [("attestor/query.columns", laid_attestor_query_columns)], narrowed := true }
def QueryParsedValidUptoSaid : Prop := queryParsedValidUptoRow.holds Tryd.pinned (OpenSpec.upto queryParsedValidSpec)

/-- 'attestorlaw13.QueryWhiteSpace', WHERE WHAT IT READS IS OF BULK AT MOST 1048576: true; the input reads as it did. -/
def queryWhiteSpaceUptoRow : OpenClaim := { program := "ytlicfidcfhbmpaadoor", sum := "9f78c2751ececd19156f44f4c5c2b1f3c2e9435b7f4edc8623b712d4a0a1620f", func := "attestor/attestorlaw13.QueryWhiteSpace", spec := "queryWhiteSpace", unfollowed := true, recurses := true, named := ["attestor/query.columns"], apart := false, laid := [("attestor/query.columns", laid_attestor_query_columns)], narrowed := true }
def QueryWhiteSpaceUptoSaid : Prop := queryWhiteSpaceUptoRow.holds Tryd.pinned (OpenSpec.upto queryWhiteSpaceSpec)

/-- 'attestorlaw13.QueryEquals', WHERE WHAT IT READS IS OF BULK AT MOST 1048576: true; the input reads as it did. -/
def queryEqualsUptoRow : OpenClaim := { program := "ytlicfidcfhbmpaadoor", sum := "9f78c2751ececd19156f44f4c5c2b1f3c2e9435b7f4edc8623b712d4a0a1620f", func := "attestor/attestorlaw13.QueryEquals", spec := "queryEquals", unfollowed := true, recurses := true, named := ["attestor/query.columns"], apart := false, laid := [("attestor/query.columns", laid_attestor_query_columns)], narrowed := true }
def QueryEqualsUptoSaid : Prop := queryEqualsUptoRow.holds Tryd.pinned (OpenSpec.upto queryEqualsSpec)

/-- 'attestorlaw13.QueryFilters', WHERE WHAT IT READS IS OF BULK AT MOST 1048576: true; the input reads as it did. -/
def queryFiltersUptoRow : OpenClaim := { program := "ytlicfidcfhbmpaadoor", sum := "9f78c2751ececd19156f44f4c5c2b1f3c2e9435b7f4edc8623b712d4a0a1620f", func := "attestor/attestorlaw13.QueryFilters", spec := "queryFilters", unfollowed := true, recurses := true, named := ["attestor/query.columns"], apart := false, laid := [("attestor/query.columns", laid_attestor_query_columns)], narrowed := true }
def QueryFiltersUptoSaid : Prop := queryFiltersUptoRow.holds Tryd.pinned (OpenSpec.upto queryFiltersSpec)

/-- 'attestorlaw13.QueryRanges', WHERE WHAT IT READS IS OF BULK AT MOST 1048576: true; the input reads as it did. -/
def queryRangesUptoRow : OpenClaim := { program := "ytlicfidcfhbmpaadoor", sum := "9f78c2751ececd19156f44f4c5c2b1f3c2e9435b7f4edc8623b712d4a0a1620f", func := "attestor/attestorlaw13.QueryRanges", spec := "queryRanges", unfollowed := true, recurses := true, named := ["attestor/query.columns"], apart := false, laid := [("attestor/query.columns", laid_attestor_query_columns)], narrowed := true }
def QueryRangesUptoSaid : Prop := queryRangesUptoRow.holds Tryd.pinned (OpenSpec.upto queryRangesSpec)

end Rows
end Go.Proofs.YtlicfidcfhbmpaaDoor
