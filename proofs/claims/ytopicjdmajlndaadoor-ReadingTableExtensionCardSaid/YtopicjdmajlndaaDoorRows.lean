/-
  NARROWER THAN 'FOR EVERY INPUT', by the rows' own cells (each row's printed sentence says how): ReadingMatchesReference: laid · ReadingTableMatchesReference: laid · ReadingStreams: laid · ReadingColumnsDetermineReadings: laid · ReadingBitsComposeColumns: laid · ReadingTableExtension: laid · ReadingEncoding: laid.
  DERIVED. THE GIVEN ROWS OF THIS SEAT. 7 by the template 'for every input the law returns true; each argument reads behind the call as it read before'; 0 by the template 'total and deterministic' (their statements: YtopicjdmajlndaaDoorTotals.lean).
  GIVEN WITH THE SEED: the statements are not yours to turn. If you find one false, say at which input.
  Laid BY PROGRAM, IN A SANDBOX (cutbox-rows.mjs): the forced cells as the released guide's own fill.sh prints them over the translation 226d463112130839… (all of the seat's roots in one cut). By AI agents, Wed Nov 11 2026. No macro, syntax, notation, axiom, sorry.
-/
import Derived.Test.YtopicjdmajlndaaDoorChecked
import GoSem.Claim
import GoSem.ClaimJoined
import GoSem.ClaimMapViews
import Derived.JoinedTies
import Derived.KernelRfl
namespace Go.Proofs.YtopicjdmajlndaaDoor
/- THE CELL 'sum', in the pinned program and in every row, IS THE sha256 OF THE DUMP (.gsa) THAT YtopicjdmajlndaaDoorProg.lean LOADS. Nothing in Lean hashes anything: it is a label: what it is worth is what the hold of that sum in a sandbox is worth. -/
noncomputable def Tryd.pinned : Pinned := { name := "ytopicjdmajlndaadoor", sum := "226d4631121308393664ea7a9df6104d1ba1168afb6ce99001ebf39674a81877", checked := Tryd.checked }
namespace Rows
def none {H : Type} : Left H := { results := [], args := [] }

/- WHAT THE LISTED PACKAGE-LEVEL VARIABLES READ AS WHEN THE CALL BEGINS. Each datum BY PROGRAM (the guide's laid-datum.mjs) off the statement by which the dump's own 'gosem.cut.vars' lays the variable. In a bare row this is a premise. The card (YtopicjdmajlndaaDoorCards.lean) ties it to the program's text. -/
def laid_attestor_reading_widths {H : Type} : DataW H := .agg [.lit (.int .i64 4), .lit (.int .i64 8), .lit (.int .i64 4), .lit (.int .i64 8)]

/-- 'attestorlaw12.ReadingMatchesReference': WHATEVER THE INPUT: true; the input reads as it did. -/
def readingMatchesReferenceSpec : ChangeSpec := { name := "readingMatchesReference", fn := fun _ => fun
  | [d1, d2, d3, d4] => { results := [.lit (.bool true)], args := [d1, d2, d3, d4] }
  | _ => none }
def readingMatchesReferenceRow : OpenClaim := { program := "ytopicjdmajlndaadoor", sum := "226d4631121308393664ea7a9df6104d1ba1168afb6ce99001ebf39674a81877", func := "attestor/attestorlaw12.ReadingMatchesReference", spec := "readingMatchesReference", unfollowed := true, recurses := true, named := ["attestor/reading.widths"], apart := false, laid := [("attestor/reading.widths", laid_attestor_reading_widths)] }
def ReadingMatchesReferenceSaid : Prop := readingMatchesReferenceRow.holds Tryd.pinned (OpenSpec.ofChange readingMatchesReferenceSpec)

/-- ITS FALSE NEIGHBOUR: 'it returns false'. Refute it at one input. -/
def readingMatchesReferenceWrong : ChangeSpec := { name := "readingMatchesReference", fn := fun _ => fun
  | [d1, d2, d3, d4] => { results := [.lit (.bool false)], args := [d1, d2, d3, d4] }
  | _ => none }
def ReadingMatchesReferenceWrongFalsely : Prop := readingMatchesReferenceRow.holds Tryd.pinned (OpenSpec.ofChange readingMatchesReferenceWrong)

/-- 'attestorlaw12.ReadingTableMatchesReference': WHATEVER THE INPUT: true; the input reads as it did. -/
def readingTableMatchesReferenceSpec : ChangeSpec := { name := "readingTableMatchesReference", fn := fun _ => fun
  | [d1, d2] => { results := [.lit (.bool true)], args := [d1, d2] }
  | _ => none }
def readingTableMatchesReferenceRow : OpenClaim := { program := "ytopicjdmajlndaadoor", sum := "226d4631121308393664ea7a9df6104d1ba1168afb6ce99001ebf39674a81877", func := "attestor/attestorlaw12.ReadingTableMatchesReference", spec := "readingTableMatchesReference", unfollowed := true, recurses := true, named := ["attestor/reading.widths"], apart := false, laid := [("attestor/reading.widths", laid_attestor_reading_widths)] }
def ReadingTableMatchesReferenceSaid : Prop := readingTableMatchesReferenceRow.holds Tryd.pinned (OpenSpec.ofChange readingTableMatchesReferenceSpec)

/-- ITS FALSE NEIGHBOUR: 'it returns false'. Refute it at one input. -/
def readingTableMatchesReferenceWrong : ChangeSpec := { name := "readingTableMatchesReference", fn := fun _ => fun
  | [d1, d2] => { results := [.lit (.bool false)], args := [d1, d2] }
  | _ => none }
def ReadingTableMatchesReferenceWrongFalsely : Prop := readingTableMatchesReferenceRow.holds Tryd.pinned (OpenSpec.ofChange readingTableMatchesReferenceWrong)

/-- 'attestorlaw12.ReadingStreams': WHATEVER THE INPUT: true; the input reads as it did. -/
def readingStreamsSpec : ChangeSpec := { name := "readingStreams", fn := fun _ => fun
  | [d1, d2, d3] => { results := [.lit (.bool true)], args := [d1, d2, d3] }
  | _ => none }
def readingStreamsRow : OpenClaim := { program := "ytopicjdmajlndaadoor", sum := "226d4631121308393664ea7a9df6104d1ba1168afb6ce99001ebf39674a81877", func := "attestor/attestorlaw12.ReadingStreams", spec := "readingStreams", unfollowed := true, recurses := true, named := ["attestor/reading.widths"], apart := false, laid := [("attestor/reading.widths", laid_attestor_reading_widths)] }
def ReadingStreamsSaid : Prop := readingStreamsRow.holds Tryd.pinned (OpenSpec.ofChange readingStreamsSpec)

/-- ITS FALSE NEIGHBOUR: 'it returns false'. Refute it at one input. -/
def readingStreamsWrong : ChangeSpec := { name := "readingStreams", fn := fun _ => fun
  | [d1, d2, d3] => { results := [.lit (.bool false)], args := [d1, d2, d3] }
  | _ => none }
def ReadingStreamsWrongFalsely : Prop := readingStreamsRow.holds Tryd.pinned (OpenSpec.ofChange readingStreamsWrong)

/-- 'attestorlaw12.ReadingColumnsDetermineReadings': WHATEVER THE INPUT: true; the input reads as it did. -/
def readingColumnsDetermineReadingsSpec : ChangeSpec := { name := "readingColumnsDetermineReadings", fn := fun _ => fun
  | [d1, d2] => { results := [.lit (.bool true)], args := [d1, d2] }
  | _ => none }
def readingColumnsDetermineReadingsRow : OpenClaim := { program := "ytopicjdmajlndaadoor", sum := "226d4631121308393664ea7a9df6104d1ba1168afb6ce99001ebf39674a81877", func := "attestor/attestorlaw12.ReadingColumnsDetermineReadings", spec := "readingColumnsDetermineReadings", unfollowed := true, recurses := true, named := ["attestor/reading.widths"], apart := false, laid := [("attestor/reading.widths", laid_attestor_reading_widths)] }
def ReadingColumnsDetermineReadingsSaid : Prop := readingColumnsDetermineReadingsRow.holds Tryd.pinned (OpenSpec.ofChange readingColumnsDetermineReadingsSpec)

/-- ITS FALSE NEIGHBOUR: 'it returns false'. Refute it at one input. -/
def readingColumnsDetermineReadingsWrong : ChangeSpec := { name := "readingColumnsDetermineReadings", fn := fun _ => fun
  | [d1, d2] => { results := [.lit (.bool false)], args := [d1, d2] }
  | _ => none }
def ReadingColumnsDetermineReadingsWrongFalsely : Prop := readingColumnsDetermineReadingsRow.holds Tryd.pinned (OpenSpec.ofChange readingColumnsDetermineReadingsWrong)

/-- 'attestorlaw12.ReadingBitsComposeColumns': WHATEVER THE INPUT: true; the input reads as it did. -/
def readingBitsComposeColumnsSpec : ChangeSpec := { name := "readingBitsComposeColumns", fn := fun _ => fun
  | [d] => { results := [.lit (.bool true)], args := [d] }
  | _ => none }
def readingBitsComposeColumnsRow : OpenClaim := { program := "ytopicjdmajlndaadoor", sum := "226d4631121308393664ea7a9df6104d1ba1168afb6ce99001ebf39674a81877", func := "attestor/attestorlaw12.ReadingBitsComposeColumns", spec := "readingBitsComposeColumns", unfollowed := true, recurses := true, named := ["attestor/reading.widths"], apart := false, laid := [("attestor/reading.widths", laid_attestor_reading_widths)] }
def ReadingBitsComposeColumnsSaid : Prop := readingBitsComposeColumnsRow.holds Tryd.pinned (OpenSpec.ofChange readingBitsComposeColumnsSpec)

/-- ITS FALSE NEIGHBOUR: 'it returns false'. Refute it at one input. -/
def readingBitsComposeColumnsWrong : ChangeSpec := { name := "readingBitsComposeColumns", fn := fun _ => fun
  | [d] => { results := [.lit (.bool false)], args := [d] }
  | _ => none }
def ReadingBitsComposeColumnsWrongFalsely : Prop := readingBitsComposeColumnsRow.holds Tryd.pinned (OpenSpec.ofChange readingBitsComposeColumnsWrong)

/-- 'attestorlaw12.ReadingTableExtension': WHATEVER THE INPUT: true; the input reads as it did. -/
def readingTableExtensionSpec : ChangeSpec := { name := "readingTableExtension", fn := fun _ => fun
  | [d1, d2] => { results := [.lit (.bool true)], args := [d1, d2] }
  | _ => none }
def readingTableExtensionRow : OpenClaim := { program := "ytopicjdmajlndaadoor", sum := "226d4631121308393664ea7a9df6104d1ba1168afb6ce99001ebf39674a81877", func := "attestor/attestorlaw12.ReadingTableExtension", spec := "readingTableExtension", unfollowed := true, recurses := true, named := ["attestor/reading.widths"], apart := false, laid := [("attestor/reading.widths", laid_attestor_reading_widths)] }
def ReadingTableExtensionSaid : Prop := readingTableExtensionRow.holds Tryd.pinned (OpenSpec.ofChange readingTableExtensionSpec)

/-- ITS FALSE NEIGHBOUR: 'it returns false'. Refute it at one input. -/
def readingTableExtensionWrong : ChangeSpec := { name := "readingTableExtension", fn := fun _ => fun
  | [d1, d2] => { results := [.lit (.bool false)], args := [d1, d2] }
  | _ => none }
def ReadingTableExtensionWrongFalsely : Prop := readingTableExtensionRow.holds Tryd.pinned (OpenSpec.ofChange readingTableExtensionWrong)

/-- 'attestorlaw12.ReadingEncoding': WHATEVER THE INPUT: true; the input reads as it did. -/
def readingEncodingSpec : ChangeSpec := { name := "readingEncoding", fn := fun _ => fun
  | [d1, d2, d3] => { results := [.lit (.bool true)], args := [d1, d2, d3] }
  | _ => none }
def readingEncodingRow : OpenClaim := { program := "ytopicjdmajlndaadoor", sum := "226d4631121308393664ea7a9df6104d1ba1168afb6ce99001ebf39674a81877", func := "attestor/attestorlaw12.ReadingEncoding", spec := "readingEncoding", unfollowed := true, recurses := true, named := ["attestor/reading.widths"], apart := false, laid := [("attestor/reading.widths", laid_attestor_reading_widths)] }
def ReadingEncodingSaid : Prop := readingEncodingRow.holds Tryd.pinned (OpenSpec.ofChange readingEncodingSpec)

/-- ITS FALSE NEIGHBOUR: 'it returns false'. Refute it at one input. -/
def readingEncodingWrong : ChangeSpec := { name := "readingEncoding", fn := fun _ => fun
  | [d1, d2, d3] => { results := [.lit (.bool false)], args := [d1, d2, d3] }
  | _ => none }
def ReadingEncodingWrongFalsely : Prop := readingEncodingRow.holds Tryd.pinned (OpenSpec.ofChange readingEncodingWrong)

/- THE SECOND FORM. 'bulk': how many values and letters a reading holds, each counted each time it is reached (what is shared counts as often as it is met; a slice's spare places count too). A statement '..UptoSaid' is the law's where the arguments, and the package variables that the reading takes, are together of bulk at most 1048576: NARROWER than '..Said'. Prove '..Said' where nothing that the law and all that it calls make is longer than what came in: it says more and counts as full. Else prove '..UptoSaid'. A law counts once. -/
mutual
def uptoBulk {H : Type} : DataW H → Nat
  | .lit (.string bytes) => bytes.length + 1
  | .lit _ => 1
  | .nil => 1
  | .ptr d => uptoBulk d + 1
  | .slice elems spare => uptoBulkAll elems + uptoBulkAll spare + 1
  | .agg parts => uptoBulkAll parts + 1
  | .iface _ d => uptoBulk d + 1
  | .map entries => uptoBulkEntries entries + 1
  | .held _ => 1
def uptoBulkAll {H : Type} : List (DataW H) → Nat
  | [] => 0
  | d :: r => uptoBulk d + uptoBulkAll r
def uptoBulkEntries {H : Type} : List (Lit × DataW H) → Nat
  | [] => 0
  | x :: r => uptoBulkEntry x + uptoBulkEntries r
def uptoBulkEntry {H : Type} : Lit × DataW H → Nat
  | (.string bytes, d) => bytes.length + uptoBulk d + 1
  | (_, d) => uptoBulk d + 1
 end
def uptoSmall : (H : Type) → List (DataW H) → Bool := fun _ ds => decide (uptoBulkAll ds ≤ 1048576)
def OpenSpec.upto (s : _root_.Go.ChangeSpec) : _root_.Go.OpenSpec := { _root_.Go.OpenSpec.ofChange s with cond := some uptoSmall }

/-- 'attestorlaw12.ReadingMatchesReference', WHERE WHAT IT READS IS OF BULK AT MOST 1048576: true; the input reads as it did. -/
def readingMatchesReferenceUptoRow : OpenClaim := { program := "ytopicjdmajlndaadoor", sum := "226d4631121308393664ea7a9df6104d1ba1168afb6ce99001ebf39674a81877", func := "attestor/attestorlaw12.ReadingMatchesReference", spec := "readingMatchesReference", unfollowed := true, recurses := true, named := ["attestor/reading.widths"], apart := false, laid := [("attestor/reading.widths", laid_attestor_reading_widths)], narrowed := true }
def ReadingMatchesReferenceUptoSaid : Prop := readingMatchesReferenceUptoRow.holds Tryd.pinned (OpenSpec.upto readingMatchesReferenceSpec)

/-- 'attestorlaw12.ReadingTableMatchesReference', WHERE WHAT IT READS IS OF BULK AT MOST 1048576: true; the input reads as it did. -/
def readingTableMatchesReferenceUptoRow : OpenClaim := { program := "ytopicjdmajlndaadoor", sum := "226d4631121308393664ea7a9df6104d1ba1168afb6ce99001ebf39674a81877", func := "attestor/attestorlaw12.ReadingTableMatchesReference", spec := "readingTableMatchesReference", unfollowed := true, recurses := true, named := ["attestor/reading.widths"], apart := false, laid := [("attestor/reading.widths", laid_attestor_reading_widths)], narrowed := true }
def ReadingTableMatchesReferenceUptoSaid : Prop := readingTableMatchesReferenceUptoRow.holds Tryd.pinned (OpenSpec.upto readingTableMatchesReferenceSpec)

/-- 'attestorlaw12.ReadingStreams', WHERE WHAT IT READS IS OF BULK AT MOST 1048576: true; the input reads as it did. -/
def readingStreamsUptoRow : OpenClaim := { program := "ytopicjdmajlndaadoor", sum := "226d4631121308393664ea7a9df6104d1ba1168afb6ce99001ebf39674a81877", func := "attestor/attestorlaw12.ReadingStreams", spec := "readingStreams", unfollowed := true, recurses := true, named := ["attestor/reading.widths"], apart := false, laid := [("attestor/reading.widths", laid_attestor_reading_widths)], narrowed := true }
def ReadingStreamsUptoSaid : Prop := readingStreamsUptoRow.holds Tryd.pinned (OpenSpec.upto readingStreamsSpec)

/-- 'attestorlaw12.ReadingColumnsDetermineReadings', WHERE WHAT IT READS IS OF BULK AT MOST 1048576: true; the input reads as it did. -/
def readingColumnsDetermineReadingsUptoRow : OpenClaim := { program := "ytopicjdmajlndaadoor", sum := "226d4631121308393664ea7a9df6104d1ba1168afb6ce99001ebf39674a81877", func := "attestor/attestorlaw12.ReadingColumnsDetermineReadings", spec := "readingColumnsDetermineReadings", unfollowed := true, recurses := true, named := ["attestor/reading.widths"], apart := false, laid := [("attestor/reading.widths", laid_attestor_reading_widths)], narrowed := true }
def ReadingColumnsDetermineReadingsUptoSaid : Prop := readingColumnsDetermineReadingsUptoRow.holds Tryd.pinned (OpenSpec.upto readingColumnsDetermineReadingsSpec)

/-- 'attestorlaw12.ReadingBitsComposeColumns', WHERE WHAT IT READS IS OF BULK AT MOST 1048576: true; the input reads as it did. -/
def readingBitsComposeColumnsUptoRow : OpenClaim := { program := "ytopicjdmajlndaadoor", sum := "226d4631121308393664ea7a9df6104d1ba1168afb6ce99001ebf39674a81877", func := "attestor/attestorlaw12.ReadingBitsComposeColumns", spec := "readingBitsComposeColumns", unfollowed := true, recurses := true, named := ["attestor/reading.widths"], apart := false, laid := [("attestor/reading.widths", laid_attestor_reading_widths)], narrowed := true }
def ReadingBitsComposeColumnsUptoSaid : Prop := readingBitsComposeColumnsUptoRow.holds Tryd.pinned (OpenSpec.upto readingBitsComposeColumnsSpec)

/-- 'attestorlaw12.ReadingTableExtension', WHERE WHAT IT READS IS OF BULK AT MOST 1048576: true; the input reads as it did. -/
def readingTableExtensionUptoRow : OpenClaim := { program := "ytopicjdmajlndaadoor", sum := "226d4631121308393664ea7a9df6104d1ba1168afb6ce99001ebf39674a81877", func := "attestor/attestorlaw12.ReadingTableExtension", spec := "readingTableExtension", unfollowed := true, recurses := true, named := ["attestor/reading.widths"], apart := false, laid := [("attestor/reading.widths", laid_attestor_reading_widths)], narrowed := true }
def ReadingTableExtensionUptoSaid : Prop := readingTableExtensionUptoRow.holds Tryd.pinned (OpenSpec.upto readingTableExtensionSpec)

/-- 'attestorlaw12.ReadingEncoding', WHERE WHAT IT READS IS OF BULK AT MOST 1048576: true; the input reads as it did. -/
def readingEncodingUptoRow : OpenClaim := { program := "ytopicjdmajlndaadoor", sum := "226d4631121308393664ea7a9df6104d1ba1168afb6ce99001ebf39674a81877", func := "attestor/attestorlaw12.ReadingEncoding", spec := "readingEncoding", unfollowed := true, recurses := true, named := ["attestor/reading.widths"], apart := false, laid := [("attestor/reading.widths", laid_attestor_reading_widths)], narrowed := true }
def ReadingEncodingUptoSaid : Prop := readingEncodingUptoRow.holds Tryd.pinned (OpenSpec.upto readingEncodingSpec)

end Rows
end Go.Proofs.YtopicjdmajlndaaDoor
