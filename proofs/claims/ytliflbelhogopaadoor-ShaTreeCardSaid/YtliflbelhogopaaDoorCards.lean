/-
  DERIVED. GIVEN WITH THE SEED: THE CARDS: each row of YtliflbelhogopaaDoorRows.lean that lists a variable, with what it lists TIED to the program's text (the seventh form; the later family's looks); each row that meets fmt, with fmt's text TOLD by the authors' own Lean function (tested against real Go, not proved from fmt's source: count such statements apart). THE CARD IS WHAT COUNTS. Prove the row's statement (the work); the ties are given (YtliflbelhogopaaDoorTie.lean); close each card by the builder's one call (the guide's Derived/Test/ToyasCard.lean, 'card_holds'). Laid BY PROGRAM, IN A SANDBOX (cutbox-door.mjs). By AI agents, Wed Nov 11 2026. No macro, syntax, notation, axiom, sorry.
-/
import Derived.Test.YtliflbelhogopaaDoorRows
import GoSem.ClaimSeven
namespace Go.Proofs.YtliflbelhogopaaDoor
namespace Rows

/-- THE TIED CARD OF 'attestorlaw07.ShaMatchesReference'. -/
def shaMatchesReferenceCard : Claim7 := { stood := { row := shaMatchesReferenceRow, standIns := [], harness := (true, "df8afe10eafd86e433417206db53d0d119c1e1d2aa1fad3051afccfde407c722"), looks := false }, kinds := [], alts := [], laidByText := true, laidKinds := [.data, .data], laidTests := true, laidLooks := .later }
def ShaMatchesReferenceCardSaid : Prop := Claim7.holds Tryd.pinned (.plain (OpenSpec.ofChange shaMatchesReferenceSpec)) shaMatchesReferenceCard

/-- THE TIED CARD OF 'attestorlaw07.ShaLengths'. -/
def shaLengthsCard : Claim7 := { stood := { row := shaLengthsRow, standIns := [], harness := (true, "df8afe10eafd86e433417206db53d0d119c1e1d2aa1fad3051afccfde407c722"), looks := false }, kinds := [], alts := [], laidByText := true, laidKinds := [.data, .data], laidTests := true, laidLooks := .later }
def ShaLengthsCardSaid : Prop := Claim7.holds Tryd.pinned (.plain (OpenSpec.ofChange shaLengthsSpec)) shaLengthsCard

/-- THE TIED CARD OF 'attestorlaw07.ShaIteration'. -/
def shaIterationCard : Claim7 := { stood := { row := shaIterationRow, standIns := [], harness := (true, "df8afe10eafd86e433417206db53d0d119c1e1d2aa1fad3051afccfde407c722"), looks := false }, kinds := [], alts := [], laidByText := true, laidKinds := [.data, .data], laidTests := true, laidLooks := .later }
def ShaIterationCardSaid : Prop := Claim7.holds Tryd.pinned (.plain (OpenSpec.ofChange shaIterationSpec)) shaIterationCard

/-- THE TIED CARD OF 'attestorlaw07.ShaDomains'. -/
def shaDomainsCard : Claim7 := { stood := { row := shaDomainsRow, standIns := [], harness := (true, "df8afe10eafd86e433417206db53d0d119c1e1d2aa1fad3051afccfde407c722"), looks := false }, kinds := [], alts := [], laidByText := true, laidKinds := [.data, .data], laidTests := true, laidLooks := .later }
def ShaDomainsCardSaid : Prop := Claim7.holds Tryd.pinned (.plain (OpenSpec.ofChange shaDomainsSpec)) shaDomainsCard

/-- THE TIED CARD OF 'attestorlaw07.ShaKeyed'. -/
def shaKeyedCard : Claim7 := { stood := { row := shaKeyedRow, standIns := [], harness := (true, "df8afe10eafd86e433417206db53d0d119c1e1d2aa1fad3051afccfde407c722"), looks := false }, kinds := [], alts := [], laidByText := true, laidKinds := [.data, .data], laidTests := true, laidLooks := .later }
def ShaKeyedCardSaid : Prop := Claim7.holds Tryd.pinned (.plain (OpenSpec.ofChange shaKeyedSpec)) shaKeyedCard

/-- THE TIED CARD OF 'attestorlaw07.ShaTree'. -/
def shaTreeCard : Claim7 := { stood := { row := shaTreeRow, standIns := [], harness := (true, "df8afe10eafd86e433417206db53d0d119c1e1d2aa1fad3051afccfde407c722"), looks := false }, kinds := [], alts := [], laidByText := true, laidKinds := [.data, .data], laidTests := true, laidLooks := .later }
def ShaTreeCardSaid : Prop := Claim7.holds Tryd.pinned (.plain (OpenSpec.ofChange shaTreeSpec)) shaTreeCard

/-- THE TIED CARD OF 'attestorlaw07.ShaPurity'. -/
def shaPurityCard : Claim7 := { stood := { row := shaPurityRow, standIns := [], harness := (true, "df8afe10eafd86e433417206db53d0d119c1e1d2aa1fad3051afccfde407c722"), looks := false }, kinds := [], alts := [], laidByText := true, laidKinds := [.data, .data], laidTests := true, laidLooks := .later }
def ShaPurityCardSaid : Prop := Claim7.holds Tryd.pinned (.plain (OpenSpec.ofChange shaPuritySpec)) shaPurityCard

/-- THE TIED CARD OF 'attestorlaw07.ShaMillionth'. -/
def shaMillionthCard : Claim7 := { stood := { row := shaMillionthRow, standIns := [], harness := (true, "df8afe10eafd86e433417206db53d0d119c1e1d2aa1fad3051afccfde407c722"), looks := false }, kinds := [], alts := [], laidByText := true, laidKinds := [.data, .data], laidTests := true, laidLooks := .later }
def ShaMillionthCardSaid : Prop := Claim7.holds Tryd.pinned (.plain (OpenSpec.ofChange shaMillionthSpec)) shaMillionthCard

/-- THE SECOND FORM's CARD OF 'attestorlaw07.ShaMatchesReference'. -/
def shaMatchesReferenceUptoCard : Claim7 := { stood := { row := shaMatchesReferenceUptoRow, standIns := [], harness := (true, "df8afe10eafd86e433417206db53d0d119c1e1d2aa1fad3051afccfde407c722"), looks := false }, kinds := [], alts := [], laidByText := true, laidKinds := [.data, .data], laidTests := true, laidLooks := .later }
def ShaMatchesReferenceUptoCardSaid : Prop := Claim7.holds Tryd.pinned (.plain (OpenSpec.upto shaMatchesReferenceSpec)) shaMatchesReferenceUptoCard

/-- THE SECOND FORM's CARD OF 'attestorlaw07.ShaLengths'. -/
def shaLengthsUptoCard : Claim7 := { stood := { row := shaLengthsUptoRow, standIns := [], harness := (true, "df8afe10eafd86e433417206db53d0d119c1e1d2aa1fad3051afccfde407c722"), looks := false }, kinds := [], alts := [], laidByText := true, laidKinds := [.data, .data], laidTests := true, laidLooks := .later }
def ShaLengthsUptoCardSaid : Prop := Claim7.holds Tryd.pinned (.plain (OpenSpec.upto shaLengthsSpec)) shaLengthsUptoCard

/-- THE SECOND FORM's CARD OF 'attestorlaw07.ShaIteration'. -/
def shaIterationUptoCard : Claim7 := { stood := { row := shaIterationUptoRow, standIns := [], harness := (true, "df8afe10eafd86e433417206db53d0d119c1e1d2aa1fad3051afccfde407c722"), looks := false }, kinds := [], alts := [], laidByText := true, laidKinds := [.data, .data], laidTests := true, laidLooks := .later }
def ShaIterationUptoCardSaid : Prop := Claim7.holds Tryd.pinned (.plain (OpenSpec.upto shaIterationSpec)) shaIterationUptoCard

/-- THE SECOND FORM's CARD OF 'attestorlaw07.ShaDomains'. -/
def shaDomainsUptoCard : Claim7 := { stood := { row := shaDomainsUptoRow, standIns := [], harness := (true, "df8afe10eafd86e433417206db53d0d119c1e1d2aa1fad3051afccfde407c722"), looks := false }, kinds := [], alts := [], laidByText := true, laidKinds := [.data, .data], laidTests := true, laidLooks := .later }
def ShaDomainsUptoCardSaid : Prop := Claim7.holds Tryd.pinned (.plain (OpenSpec.upto shaDomainsSpec)) shaDomainsUptoCard

/-- THE SECOND FORM's CARD OF 'attestorlaw07.ShaKeyed'. -/
def shaKeyedUptoCard : Claim7 := { stood := { row := shaKeyedUptoRow, standIns := [], harness := (true, "df8afe10eafd86e433417206db53d0d119c1e1d2aa1fad3051afccfde407c722"), looks := false }, kinds := [], alts := [], laidByText := true, laidKinds := [.data, .data], laidTests := true, laidLooks := .later }
def ShaKeyedUptoCardSaid : Prop := Claim7.holds Tryd.pinned (.plain (OpenSpec.upto shaKeyedSpec)) shaKeyedUptoCard

/-- THE SECOND FORM's CARD OF 'attestorlaw07.ShaTree'. -/
def shaTreeUptoCard : Claim7 := { stood := { row := shaTreeUptoRow, standIns := [], harness := (true, "df8afe10eafd86e433417206db53d0d119c1e1d2aa1fad3051afccfde407c722"), looks := false }, kinds := [], alts := [], laidByText := true, laidKinds := [.data, .data], laidTests := true, laidLooks := .later }
def ShaTreeUptoCardSaid : Prop := Claim7.holds Tryd.pinned (.plain (OpenSpec.upto shaTreeSpec)) shaTreeUptoCard

/-- THE SECOND FORM's CARD OF 'attestorlaw07.ShaPurity'. -/
def shaPurityUptoCard : Claim7 := { stood := { row := shaPurityUptoRow, standIns := [], harness := (true, "df8afe10eafd86e433417206db53d0d119c1e1d2aa1fad3051afccfde407c722"), looks := false }, kinds := [], alts := [], laidByText := true, laidKinds := [.data, .data], laidTests := true, laidLooks := .later }
def ShaPurityUptoCardSaid : Prop := Claim7.holds Tryd.pinned (.plain (OpenSpec.upto shaPuritySpec)) shaPurityUptoCard

/-- THE SECOND FORM's CARD OF 'attestorlaw07.ShaMillionth'. -/
def shaMillionthUptoCard : Claim7 := { stood := { row := shaMillionthUptoRow, standIns := [], harness := (true, "df8afe10eafd86e433417206db53d0d119c1e1d2aa1fad3051afccfde407c722"), looks := false }, kinds := [], alts := [], laidByText := true, laidKinds := [.data, .data], laidTests := true, laidLooks := .later }
def ShaMillionthUptoCardSaid : Prop := Claim7.holds Tryd.pinned (.plain (OpenSpec.upto shaMillionthSpec)) shaMillionthUptoCard
end Rows
end Go.Proofs.YtliflbelhogopaaDoor
