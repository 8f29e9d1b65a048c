/-
  NARROWER THAN 'FOR EVERY INPUT', by the rows' own cells (each row's printed sentence says how): TypecheckMatchesReference: laid · TypecheckSound: laid · TypecheckTight: laid · TypecheckMonotonic: laid · TypecheckRejects: laid · TypecheckUnsatisfiable: laid · TypecheckRows: laid.
  DERIVED. THE GIVEN ROWS OF THIS SEAT. 7 by the template 'for every input the law returns true; each argument reads behind the call as it read before'; 0 by the template 'total and deterministic' (their statements: YtbecajihgbbgjaaDoorTotals.lean).
  GIVEN WITH THE SEED: the statements are not yours to turn. If you find one false, say at which input.
  Laid BY PROGRAM, IN A SANDBOX (cutbox-rows.mjs): the forced cells as the released guide's own fill.sh prints them over the translation 9a309b36ac3261ae… (all of the seat's roots in one cut). By AI agents, Wed Nov 11 2026. No macro, syntax, notation, axiom, sorry.
-/
import Derived.Test.YtbecajihgbbgjaaDoorChecked
import GoSem.Claim
import GoSem.ClaimJoined
import GoSem.ClaimMapViews
import Derived.JoinedTies
import Derived.KernelRfl
namespace Go.Proofs.YtbecajihgbbgjaaDoor
/- THE CELL 'sum', in the pinned program and in every row, IS THE sha256 OF THE DUMP (.gsa) THAT YtbecajihgbbgjaaDoorProg.lean LOADS. Nothing in Lean hashes anything: it is a label: what it is worth is what the hold of that sum in a sandbox is worth. -/
noncomputable def Tryd.pinned : Pinned := { name := "ytbecajihgbbgjaadoor", sum := "9a309b36ac3261ae767477cbb3b402cbc4b824ca233448751c23478436dadc31", checked := Tryd.checked }
namespace Rows
def none {H : Type} : Left H := { results := [], args := [] }

/- WHAT THE LISTED PACKAGE-LEVEL VARIABLES READ AS WHEN THE CALL BEGINS. Each datum BY PROGRAM (the guide's laid-datum.mjs) off the statement by which the dump's own 'gosem.cut.vars' lays the variable. In a bare row this is a premise. The card (YtbecajihgbbgjaaDoorCards.lean) ties it to the program's text. -/
def laid_attestor_query_columns {H : Type} : DataW H := .agg [.agg [.lit (.string [119, 104, 111]), .lit (.int .i64 15)], .agg [.lit (.string [119, 104, 101, 110]), .lit (.int .i64 255)], .agg [.lit (.string [107, 105, 110, 100]), .lit (.int .i64 15)], .agg [.lit (.string [118, 97, 108, 117, 101]), .lit (.int .i64 255)]]
def laid_attestor_typecheck_widths {H : Type} : DataW H := .agg [.lit (.int .i64 4), .lit (.int .i64 8), .lit (.int .i64 4), .lit (.int .i64 8), .lit (.int .i64 1)]

/-- 'attestorlaw14.TypecheckMatchesReference': WHATEVER THE INPUT: true; the input reads as it did. -/
def typecheckMatchesReferenceSpec : ChangeSpec := { name := "typecheckMatchesReference", fn := fun _ => fun
  | [d1, d2, d3] => { results := [.lit (.bool true)], args := [d1, d2, d3] }
  | _ => none }
def typecheckMatchesReferenceRow : OpenClaim := { program := "ytbecajihgbbgjaadoor", sum := "9a309b36ac3261ae767477cbb3b402cbc4b824ca233448751c23478436dadc31", func := "attestor/attestorlaw14.TypecheckMatchesReference", spec := "typecheckMatchesReference", unfollowed := true, recurses := true, named := ["attestor/query.columns", "attestor/typecheck.widths"], apart := false, laid := [("attestor/query.columns", laid_attestor_query_columns), ("attestor/typecheck.widths", laid_attestor_typecheck_widths)] }
def TypecheckMatchesReferenceSaid : Prop := typecheckMatchesReferenceRow.holds Tryd.pinned (OpenSpec.ofChange typecheckMatchesReferenceSpec)

/-- ITS FALSE NEIGHBOUR: 'it returns false'. Refute it at one input. -/
def typecheckMatchesReferenceWrong : ChangeSpec := { name := "typecheckMatchesReference", fn := fun _ => fun
  | [d1, d2, d3] => { results := [.lit (.bool false)], args := [d1, d2, d3] }
  | _ => none }
def TypecheckMatchesReferenceWrongFalsely : Prop := typecheckMatchesReferenceRow.holds Tryd.pinned (OpenSpec.ofChange typecheckMatchesReferenceWrong)

/-- 'attestorlaw14.TypecheckSound': WHATEVER THE INPUT: true; the input reads as it did. -/
def typecheckSoundSpec : ChangeSpec := { name := "typecheckSound", fn := fun _ => fun
  | [d1, d2, d3] => { results := [.lit (.bool true)], args := [d1, d2, d3] }
  | _ => none }
def typecheckSoundRow : OpenClaim := { program := "ytbecajihgbbgjaadoor", sum := "9a309b36ac3261ae767477cbb3b402cbc4b824ca233448751c23478436dadc31", func := "attestor/attestorlaw14.TypecheckSound", spec := "typecheckSound", unfollowed := true, recurses := true, named := ["attestor/query.columns", "attestor/typecheck.widths"], apart := false, laid := [("attestor/query.columns", laid_attestor_query_columns), ("attestor/typecheck.widths", laid_attestor_typecheck_widths)] }
def TypecheckSoundSaid : Prop := typecheckSoundRow.holds Tryd.pinned (OpenSpec.ofChange typecheckSoundSpec)

/-- ITS FALSE NEIGHBOUR: 'it returns false'. Refute it at one input. -/
def typecheckSoundWrong : ChangeSpec := { name := "typecheckSound", fn := fun _ => fun
  | [d1, d2, d3] => { results := [.lit (.bool false)], args := [d1, d2, d3] }
  | _ => none }
def TypecheckSoundWrongFalsely : Prop := typecheckSoundRow.holds Tryd.pinned (OpenSpec.ofChange typecheckSoundWrong)

/-- 'attestorlaw14.TypecheckTight': WHATEVER THE INPUT: true; the input reads as it did. -/
def typecheckTightSpec : ChangeSpec := { name := "typecheckTight", fn := fun _ => fun
  | [d1, d2] => { results := [.lit (.bool true)], args := [d1, d2] }
  | _ => none }
def typecheckTightRow : OpenClaim := { program := "ytbecajihgbbgjaadoor", sum := "9a309b36ac3261ae767477cbb3b402cbc4b824ca233448751c23478436dadc31", func := "attestor/attestorlaw14.TypecheckTight", spec := "typecheckTight", unfollowed := true, recurses := true, named := ["attestor/query.columns", "attestor/typecheck.widths"], apart := false, laid := [("attestor/query.columns", laid_attestor_query_columns), ("attestor/typecheck.widths", laid_attestor_typecheck_widths)] }
def TypecheckTightSaid : Prop := typecheckTightRow.holds Tryd.pinned (OpenSpec.ofChange typecheckTightSpec)

/-- ITS FALSE NEIGHBOUR: 'it returns false'. Refute it at one input. -/
def typecheckTightWrong : ChangeSpec := { name := "typecheckTight", fn := fun _ => fun
  | [d1, d2] => { results := [.lit (.bool false)], args := [d1, d2] }
  | _ => none }
def TypecheckTightWrongFalsely : Prop := typecheckTightRow.holds Tryd.pinned (OpenSpec.ofChange typecheckTightWrong)

/-- 'attestorlaw14.TypecheckMonotonic': WHATEVER THE INPUT: true; the input reads as it did. -/
def typecheckMonotonicSpec : ChangeSpec := { name := "typecheckMonotonic", fn := fun _ => fun
  | [d1, d2, d3] => { results := [.lit (.bool true)], args := [d1, d2, d3] }
  | _ => none }
def typecheckMonotonicRow : OpenClaim := { program := "ytbecajihgbbgjaadoor", sum := "9a309b36ac3261ae767477cbb3b402cbc4b824ca233448751c23478436dadc31", func := "attestor/attestorlaw14.TypecheckMonotonic", spec := "typecheckMonotonic", unfollowed := true, recurses := true, named := ["attestor/query.columns", "attestor/typecheck.widths"], apart := false, laid := [("attestor/query.columns", laid_attestor_query_columns), ("attestor/typecheck.widths", laid_attestor_typecheck_widths)] }
def TypecheckMonotonicSaid : Prop := typecheckMonotonicRow.holds Tryd.pinned (OpenSpec.ofChange typecheckMonotonicSpec)

/-- ITS FALSE NEIGHBOUR: 'it returns false'. Refute it at one input. -/
def typecheckMonotonicWrong : ChangeSpec := { name := "typecheckMonotonic", fn := fun _ => fun
  | [d1, d2, d3] => { results := [.lit (.bool false)], args := [d1, d2, d3] }
  | _ => none }
def TypecheckMonotonicWrongFalsely : Prop := typecheckMonotonicRow.holds Tryd.pinned (OpenSpec.ofChange typecheckMonotonicWrong)

/-- 'attestorlaw14.TypecheckRejects': WHATEVER THE INPUT: true; the input reads as it did. -/
def typecheckRejectsSpec : ChangeSpec := { name := "typecheckRejects", fn := fun _ => fun
  | [d1, d2] => { results := [.lit (.bool true)], args := [d1, d2] }
  | _ => none }
def typecheckRejectsRow : OpenClaim := { program := "ytbecajihgbbgjaadoor", sum := "9a309b36ac3261ae767477cbb3b402cbc4b824ca233448751c23478436dadc31", func := "attestor/attestorlaw14.TypecheckRejects", spec := "typecheckRejects", unfollowed := true, recurses := true, named := ["attestor/query.columns", "attestor/typecheck.widths"], apart := false, laid := [("attestor/query.columns", laid_attestor_query_columns), ("attestor/typecheck.widths", laid_attestor_typecheck_widths)] }
def TypecheckRejectsSaid : Prop := typecheckRejectsRow.holds Tryd.pinned (OpenSpec.ofChange typecheckRejectsSpec)

/-- ITS FALSE NEIGHBOUR: 'it returns false'. Refute it at one input. -/
def typecheckRejectsWrong : ChangeSpec := { name := "typecheckRejects", fn := fun _ => fun
  | [d1, d2] => { results := [.lit (.bool false)], args := [d1, d2] }
  | _ => none }
def TypecheckRejectsWrongFalsely : Prop := typecheckRejectsRow.holds Tryd.pinned (OpenSpec.ofChange typecheckRejectsWrong)

/-- 'attestorlaw14.TypecheckUnsatisfiable': WHATEVER THE INPUT: true; the input reads as it did. -/
def typecheckUnsatisfiableSpec : ChangeSpec := { name := "typecheckUnsatisfiable", fn := fun _ => fun
  | [d1, d2, d3] => { results := [.lit (.bool true)], args := [d1, d2, d3] }
  | _ => none }
def typecheckUnsatisfiableRow : OpenClaim := { program := "ytbecajihgbbgjaadoor", sum := "9a309b36ac3261ae767477cbb3b402cbc4b824ca233448751c23478436dadc31", func := "attestor/attestorlaw14.TypecheckUnsatisfiable", spec := "typecheckUnsatisfiable", unfollowed := true, recurses := true, named := ["attestor/query.columns", "attestor/typecheck.widths"], apart := false, laid := [("attestor/query.columns", laid_attestor_query_columns), ("attestor/typecheck.widths", laid_attestor_typecheck_widths)] }
def TypecheckUnsatisfiableSaid : Prop := typecheckUnsatisfiableRow.holds Tryd.pinned (OpenSpec.ofChange typecheckUnsatisfiableSpec)

/-- ITS FALSE NEIGHBOUR: 'it returns false'. Refute it at one input. -/
def typecheckUnsatisfiableWrong : ChangeSpec := { name := "typecheckUnsatisfiable", fn := fun _ => fun
  | [d1, d2, d3] => { results := [.lit (.bool false)], args := [d1, d2, d3] }
  | _ => none }
def TypecheckUnsatisfiableWrongFalsely : Prop := typecheckUnsatisfiableRow.holds Tryd.pinned (OpenSpec.ofChange typecheckUnsatisfiableWrong)

/-- 'attestorlaw14.TypecheckRows': WHATEVER THE INPUT: true; the input reads as it did. -/
def typecheckRowsSpec : ChangeSpec := { name := "typecheckRows", fn := fun _ => fun
  | [d1, d2, d3] => { results := [.lit (.bool true)], args := [d1, d2, d3] }
  | _ => none }
def typecheckRowsRow : OpenClaim := { program := "ytbecajihgbbgjaadoor", sum := "9a309b36ac3261ae767477cbb3b402cbc4b824ca233448751c23478436dadc31", func := "attestor/attestorlaw14.TypecheckRows", spec := "typecheckRows", unfollowed := true, recurses := true, named := ["attestor/query.columns", "attestor/typecheck.widths"], apart := false, laid := [("attestor/query.columns", laid_attestor_query_columns), ("attestor/typecheck.widths", laid_attestor_typecheck_widths)] }
def TypecheckRowsSaid : Prop := typecheckRowsRow.holds Tryd.pinned (OpenSpec.ofChange typecheckRowsSpec)

/-- ITS FALSE NEIGHBOUR: 'it returns false'. Refute it at one input. -/
def typecheckRowsWrong : ChangeSpec := { name := "typecheckRows", fn := fun _ => fun
  | [d1, d2, d3] => { results := [.lit (.bool false)], args := [d1, d2, d3] }
  | _ => none }
def TypecheckRowsWrongFalsely : Prop := typecheckRowsRow.holds Tryd.pinned (OpenSpec.ofChange typecheckRowsWrong)

/- THE SECOND FORM. 'bulk': how many values and letters a reading holds, each counted each time it is reached (what is shared counts as often as it is met; a slice's spare places count too). A statement '..UptoSaid' is the law's where the arguments, and the package variables that the reading takes, are together of bulk at most 1048576: NARROWER than '..Said'. Prove '..Said' where nothing that the law and all that it calls make is longer than what came in: it says more and counts as full. Else prove '..UptoSaid'. A law counts once. -/
mutual
def uptoBulk {H : Type} : DataW H → Nat
  | .lit (.string bytes) => bytes.length + 1
  | .lit _ => 1
  | .nil => 1
  | .ptr d => uptoBulk d + 1
  | .slice elems spare => uptoBulkAll elems + uptoBulkAll spare + 1
  | .agg parts => uptoBulkAll parts + 1
  | .iface _ d => uptoBulk d + 1
  | .map entries => uptoBulkEntries entries + 1
  | .held _ => 1
def uptoBulkAll {H : Type} : List (DataW H) → Nat
  | [] => 0
  | d :: r => uptoBulk d + uptoBulkAll r
def uptoBulkEntries {H : Type} : List (Lit × DataW H) → Nat
  | [] => 0
  | x :: r => uptoBulkEntry x + uptoBulkEntries r
def uptoBulkEntry {H : Type} : Lit × DataW H → Nat
  | (.string bytes, d) => bytes.length + uptoBulk d + 1
  | (_, d) => uptoBulk d + 1
 end
def uptoSmall : (H : Type) → List (DataW H) → Bool := fun _ ds => decide (uptoBulkAll ds ≤ 1048576)
def OpenSpec.upto (s : _root_.Go.ChangeSpec) : _root_.Go.OpenSpec := { _root_.Go.OpenSpec.ofChange s with cond := some uptoSmall }

/-- 'attestorlaw14.TypecheckMatchesReference', WHERE WHAT IT READS IS OF BULK AT MOST 1048576: true; the input reads as it did. -/
def typecheckMatchesReferenceUptoRow : OpenClaim := { program := "ytbecajihgbbgjaadoor", sum := "9a309b36ac3261ae767477cbb3b402cbc4b824ca233448751c23478436dadc31", func := "attestor/attestorlaw14.TypecheckMatchesReference", spec := "typecheckMatchesReference", unfollowed := true, recurses := true, named := ["attestor/query.columns", "attestor/typecheck.widths"], apart := false, laid := [("attestor/query.columns", laid_attestor_query_columns), ("attestor/typecheck.widths", laid_attestor_typecheck_widths)], narrowed := true }
def TypecheckMatchesReferenceUptoSaid : Prop := typecheckMatchesReferenceUptoRow.holds Tryd.pinned (OpenSpec.upto typecheckMatchesReferenceSpec)

/-- 'attestorlaw14.TypecheckSound', WHERE WHAT IT READS IS OF BULK AT MOST 1048576: true; the input reads as it did. -/
def typecheckSoundUptoRow : OpenClaim := { program := "ytbecajihgbbgjaadoor", sum := "9a309b36ac3261ae767477cbb3b402cbc4b824ca233448751c23478436dadc31", func := "attestor/attestorlaw14.TypecheckSound", spec := "typecheckSound", unfollowed := true, recurses := true, named := ["attestor/query.columns", "attestor/typecheck.widths"], apart := false, laid := [("attestor/query.columns", laid_attestor_query_columns), ("attestor/typecheck.widths", laid_attestor_typecheck_widths)], narrowed := true }
def TypecheckSoundUptoSaid : Prop := typecheckSoundUptoRow.holds Tryd.pinned (OpenSpec.upto typecheckSoundSpec)

/-- 'attestorlaw14.TypecheckTight', WHERE WHAT IT READS IS OF BULK AT MOST 1048576: true; the input reads as it did. -/
def typecheckTightUptoRow : OpenClaim := { program := "ytbecajihgbbgjaadoor", sum := "9a309b36ac3261ae767477cbb3b402cbc4b824ca233448751c23478436dadc31", func := "attestor/attestorlaw14.TypecheckTight", spec := "typecheckTight", unfollowed := true, recurses := true, named := ["attestor/query.columns", "attestor/typecheck.widths"], apart := false, laid := [("attestor/query.columns", laid_attestor_query_columns), ("attestor/typecheck.widths", laid_attestor_typecheck_widths)], narrowed := true }
def TypecheckTightUptoSaid : Prop := typecheckTightUptoRow.holds Tryd.pinned (OpenSpec.upto typecheckTightSpec)

/-- 'attestorlaw14.TypecheckMonotonic', WHERE WHAT IT READS IS OF BULK AT MOST 1048576: true; the input reads as it did. -/
def typecheckMonotonicUptoRow : OpenClaim := { program := "ytbecajihgbbgjaadoor", sum := "9a309b36ac3261ae767477cbb3b402cbc4b824ca233448751c23478436dadc31", func := "attestor/attestorlaw14.TypecheckMonotonic", spec := "typecheckMonotonic", unfollowed := true, recurses := true, named := ["attestor/query.columns", "attestor/typecheck.widths"], apart := false, laid := [("attestor/query.columns", laid_attestor_query_columns), ("attestor/typecheck.widths", laid_attestor_typecheck_widths)], narrowed := true }
def TypecheckMonotonicUptoSaid : Prop := typecheckMonotonicUptoRow.holds Tryd.pinned (OpenSpec.upto typecheckMonotonicSpec)

/-- 'attestorlaw14.TypecheckRejects', WHERE WHAT IT READS IS OF BULK AT MOST 1048576: true; the input reads as it did. -/
def typecheckRejectsUptoRow : OpenClaim := { program := "ytbecajihgbbgjaadoor", sum := "9a309b36ac3261ae767477cbb3b402cbc4b824ca233448751c23478436dadc31", func := "attestor/attestorlaw14.TypecheckRejects", spec := "typecheckRejects", unfollowed := true, recurses := true, named := ["attestor/query.columns", "attestor/typecheck.widths"], apart := false, laid := [("attestor/query.columns", laid_attestor_query_columns), ("attestor/typecheck.widths", laid_attestor_typecheck_widths)], narrowed := true }
def TypecheckRejectsUptoSaid : Prop := typecheckRejectsUptoRow.holds Tryd.pinned (OpenSpec.upto typecheckRejectsSpec)

/-- 'attestorlaw14.TypecheckUnsatisfiable', WHERE WHAT IT READS IS OF BULK AT MOST 1048576: true; the input reads as it did. -/
def typecheckUnsatisfiableUptoRow : OpenClaim := { program := "ytbecajihgbbgjaadoor", sum := "9a309b36ac3261ae767477cbb3b402cbc4b824ca233448751c23478436dadc31", func := "attestor/attestorlaw14.TypecheckUnsatisfiable", spec := "typecheckUnsatisfiable", unfollowed := true, recurses := true, named := ["attestor/query.columns", "attestor/typecheck.widths"], apart := false, laid := [("attestor/query.columns", laid_attestor_query_columns), ("attestor/typecheck.widths", laid_attestor_typecheck_widths)], narrowed := true }
def TypecheckUnsatisfiableUptoSaid : Prop := typecheckUnsatisfiableUptoRow.holds Tryd.pinned (OpenSpec.upto typecheckUnsatisfiableSpec)

/-- 'attestorlaw14.TypecheckRows', WHERE WHAT IT READS IS OF BULK AT MOST 1048576: true; the input reads as it did. -/
def typecheckRowsUptoRow : OpenClaim := { program := "ytbecajihgbbgjaadoor", sum := "9a309b36ac3261ae767477cbb3b402cbc4b824ca233448751c23478436dadc31", func := "attestor/attestorlaw14.TypecheckRows", spec := "typecheckRows", unfollowed := true, recurses := true, named := ["attestor/query.columns", "attestor/typecheck.widths"], apart := false, laid := [("attestor/query.columns", laid_attestor_query_columns), ("attestor/typecheck.widths", laid_attestor_typecheck_widths)], narrowed := true }
def TypecheckRowsUptoSaid : Prop := typecheckRowsUptoRow.holds Tryd.pinned (OpenSpec.upto typecheckRowsSpec)

end Rows
end Go.Proofs.YtbecajihgbbgjaaDoor
