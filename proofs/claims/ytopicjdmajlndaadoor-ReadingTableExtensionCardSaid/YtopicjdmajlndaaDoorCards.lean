/-
  DERIVED. GIVEN WITH THE SEED: THE CARDS: each row of YtopicjdmajlndaaDoorRows.lean that lists a variable, with what it lists TIED to the program's text (the seventh form; the later family's looks); each row that meets fmt, with fmt's text TOLD by the authors' own Lean function (tested against real Go, not proved from fmt's source: count such statements apart). THE CARD IS WHAT COUNTS. Prove the row's statement (the work); the ties are given (YtopicjdmajlndaaDoorTie.lean); close each card by the builder's one call (the guide's Derived/Test/ToyasCard.lean, 'card_holds'). Laid BY PROGRAM, IN A SANDBOX (cutbox-door.mjs). By AI agents, Wed Nov 11 2026. No macro, syntax, notation, axiom, sorry.
-/
import Derived.Test.YtopicjdmajlndaaDoorRows
import GoSem.ClaimSeven
namespace Go.Proofs.YtopicjdmajlndaaDoor
namespace Rows

/-- THE TIED CARD OF 'attestorlaw12.ReadingMatchesReference'. -/
def readingMatchesReferenceCard : Claim7 := { stood := { row := readingMatchesReferenceRow, standIns := [], harness := (true, "e47d9692b7a017776e52ab51eabda4ca94fd7c9c8d67c3e9e899326041b9a468"), looks := false }, kinds := [], alts := [], laidByText := true, laidKinds := [.data], laidTests := true, laidLooks := .later }
def ReadingMatchesReferenceCardSaid : Prop := Claim7.holds Tryd.pinned (.plain (OpenSpec.ofChange readingMatchesReferenceSpec)) readingMatchesReferenceCard

/-- THE TIED CARD OF 'attestorlaw12.ReadingTableMatchesReference'. -/
def readingTableMatchesReferenceCard : Claim7 := { stood := { row := readingTableMatchesReferenceRow, standIns := [], harness := (true, "e47d9692b7a017776e52ab51eabda4ca94fd7c9c8d67c3e9e899326041b9a468"), looks := false }, kinds := [], alts := [], laidByText := true, laidKinds := [.data], laidTests := true, laidLooks := .later }
def ReadingTableMatchesReferenceCardSaid : Prop := Claim7.holds Tryd.pinned (.plain (OpenSpec.ofChange readingTableMatchesReferenceSpec)) readingTableMatchesReferenceCard

/-- THE TIED CARD OF 'attestorlaw12.ReadingStreams'. -/
def readingStreamsCard : Claim7 := { stood := { row := readingStreamsRow, standIns := [], harness := (true, "e47d9692b7a017776e52ab51eabda4ca94fd7c9c8d67c3e9e899326041b9a468"), looks := false }, kinds := [], alts := [], laidByText := true, laidKinds := [.data], laidTests := true, laidLooks := .later }
def ReadingStreamsCardSaid : Prop := Claim7.holds Tryd.pinned (.plain (OpenSpec.ofChange readingStreamsSpec)) readingStreamsCard

/-- THE TIED CARD OF 'attestorlaw12.ReadingColumnsDetermineReadings'. -/
def readingColumnsDetermineReadingsCard : Claim7 := { stood := { row := readingColumnsDetermineReadingsRow, standIns := [], harness := (true, "e47d9692b7a017776e52ab51eabda4ca94fd7c9c8d67c3e9e899326041b9a468"), looks := false }, kinds := [], alts := [], laidByText := true, laidKinds := [.data], laidTests := true, laidLooks := .later }
def ReadingColumnsDetermineReadingsCardSaid : Prop := Claim7.holds Tryd.pinned (.plain (OpenSpec.ofChange readingColumnsDetermineReadingsSpec)) readingColumnsDetermineReadingsCard

/-- THE TIED CARD OF 'attestorlaw12.ReadingBitsComposeColumns'. -/
def readingBitsComposeColumnsCard : Claim7 := { stood := { row := readingBitsComposeColumnsRow, standIns := [], harness := (true, "e47d9692b7a017776e52ab51eabda4ca94fd7c9c8d67c3e9e899326041b9a468"), looks := false }, kinds := [], alts := [], laidByText := true, laidKinds := [.data], laidTests := true, laidLooks := .later }
def ReadingBitsComposeColumnsCardSaid : Prop := Claim7.holds Tryd.pinned (.plain (OpenSpec.ofChange readingBitsComposeColumnsSpec)) readingBitsComposeColumnsCard

/-- THE TIED CARD OF 'attestorlaw12.ReadingTableExtension'. -/
def readingTableExtensionCard : Claim7 := { stood := { row := readingTableExtensionRow, standIns := [], harness := (true, "e47d9692b7a017776e52ab51eabda4ca94fd7c9c8d67c3e9e899326041b9a468"), looks := false }, kinds := [], alts := [], laidByText := true, laidKinds := [.data], laidTests := true, laidLooks := .later }
def ReadingTableExtensionCardSaid : Prop := Claim7.holds Tryd.pinned (.plain (OpenSpec.ofChange readingTableExtensionSpec)) readingTableExtensionCard

/-- THE TIED CARD OF 'attestorlaw12.ReadingEncoding'. -/
def readingEncodingCard : Claim7 := { stood := { row := readingEncodingRow, standIns := [], harness := (true, "e47d9692b7a017776e52ab51eabda4ca94fd7c9c8d67c3e9e899326041b9a468"), looks := false }, kinds := [], alts := [], laidByText := true, laidKinds := [.data], laidTests := true, laidLooks := .later }
def ReadingEncodingCardSaid : Prop := Claim7.holds Tryd.pinned (.plain (OpenSpec.ofChange readingEncodingSpec)) readingEncodingCard

/-- THE SECOND FORM's CARD OF 'attestorlaw12.ReadingMatchesReference'. -/
def readingMatchesReferenceUptoCard : Claim7 := { stood := { row := readingMatchesReferenceUptoRow, standIns := [], harness := (true, "e47d9692b7a017776e52ab51eabda4ca94fd7c9c8d67c3e9e899326041b9a468"), looks := false }, kinds := [], alts := [], laidByText := true, laidKinds := [.data], laidTests := true, laidLooks := .later }
def ReadingMatchesReferenceUptoCardSaid : Prop := Claim7.holds Tryd.pinned (.plain (OpenSpec.upto readingMatchesReferenceSpec)) readingMatchesReferenceUptoCard

/-- THE SECOND FORM's CARD OF 'attestorlaw12.ReadingTableMatchesReference'. -/
def readingTableMatchesReferenceUptoCard : Claim7 := { stood := { row := readingTableMatchesReferenceUptoRow, standIns := [], harness := (true, "e47d9692b7a017776e52ab51eabda4ca94fd7c9c8d67c3e9e899326041b9a468"), looks := false }, kinds := [], alts := [], laidByText := true, laidKinds := [.data], laidTests := true, laidLooks := .later }
def ReadingTableMatchesReferenceUptoCardSaid : Prop := Claim7.holds Tryd.pinned (.plain (OpenSpec.upto readingTableMatchesReferenceSpec)) readingTableMatchesReferenceUptoCard

/-- THE SECOND FORM's CARD OF 'attestorlaw12.ReadingStreams'. -/
def readingStreamsUptoCard : Claim7 := { stood := { row := readingStreamsUptoRow, standIns := [], harness := (true, "e47d9692b7a017776e52ab51eabda4ca94fd7c9c8d67c3e9e899326041b9a468"), looks := false }, kinds := [], alts := [], laidByText := true, laidKinds := [.data], laidTests := true, laidLooks := .later }
def ReadingStreamsUptoCardSaid : Prop := Claim7.holds Tryd.pinned (.plain (OpenSpec.upto readingStreamsSpec)) readingStreamsUptoCard

/-- THE SECOND FORM's CARD OF 'attestorlaw12.ReadingColumnsDetermineReadings'. -/
def readingColumnsDetermineReadingsUptoCard : Claim7 := { stood := { row := readingColumnsDetermineReadingsUptoRow, standIns := [], harness := (true, "e47d9692b7a017776e52ab51eabda4ca94fd7c9c8d67c3e9e899326041b9a468"), looks := false }, kinds := [], alts := [], laidByText := true, laidKinds := [.data], laidTests := true, laidLooks := .later }
def ReadingColumnsDetermineReadingsUptoCardSaid : Prop := Claim7.holds Tryd.pinned (.plain (OpenSpec.upto readingColumnsDetermineReadingsSpec)) readingColumnsDetermineReadingsUptoCard

/-- THE SECOND FORM's CARD OF 'attestorlaw12.ReadingBitsComposeColumns'. -/
def readingBitsComposeColumnsUptoCard : Claim7 := { stood := { row := readingBitsComposeColumnsUptoRow, standIns := [], harness := (true, "e47d9692b7a017776e52ab51eabda4ca94fd7c9c8d67c3e9e899326041b9a468"), looks := false }, kinds := [], alts := [], laidByText := true, laidKinds := [.data], laidTests := true, laidLooks := .later }
def ReadingBitsComposeColumnsUptoCardSaid : Prop := Claim7.holds Tryd.pinned (.plain (OpenSpec.upto readingBitsComposeColumnsSpec)) readingBitsComposeColumnsUptoCard

/-- THE SECOND FORM's CARD OF 'attestorlaw12.ReadingTableExtension'. -/
def readingTableExtensionUptoCard : Claim7 := { stood := { row := readingTableExtensionUptoRow, standIns := [], harness := (true, "e47d9692b7a017776e52ab51eabda4ca94fd7c9c8d67c3e9e899326041b9a468"), looks := false }, kinds := [], alts := [], laidByText := true, laidKinds := [.data], laidTests := true, laidLooks := .later }
def ReadingTableExtensionUptoCardSaid : Prop := Claim7.holds Tryd.pinned (.plain (OpenSpec.upto readingTableExtensionSpec)) readingTableExtensionUptoCard

/-- THE SECOND FORM's CARD OF 'attestorlaw12.ReadingEncoding'. -/
def readingEncodingUptoCard : Claim7 := { stood := { row := readingEncodingUptoRow, standIns := [], harness := (true, "e47d9692b7a017776e52ab51eabda4ca94fd7c9c8d67c3e9e899326041b9a468"), looks := false }, kinds := [], alts := [], laidByText := true, laidKinds := [.data], laidTests := true, laidLooks := .later }
def ReadingEncodingUptoCardSaid : Prop := Claim7.holds Tryd.pinned (.plain (OpenSpec.upto readingEncodingSpec)) readingEncodingUptoCard
end Rows
end Go.Proofs.YtopicjdmajlndaaDoor
