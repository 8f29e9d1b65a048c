/-
  DERIVED. GIVEN WITH THE SEED: THE CARDS: each row of YtbecajihgbbgjaaDoorRows.lean that lists a variable, with what it lists TIED to the program's text (the seventh form; the later family's looks); each row that meets fmt, with fmt's text TOLD by the authors' own Lean function (tested against real Go, not proved from fmt's source: count such statements apart). THE CARD IS WHAT COUNTS. Prove the row's statement (the work); the ties are given (YtbecajihgbbgjaaDoorTie.lean); close each card by the builder's one call (the guide's Derived/Test/ToyasCard.lean, 'card_holds'). Laid BY PROGRAM, IN A SANDBOX (cutbox-door.mjs). By AI agents, Wed Nov 11 2026. No macro, syntax, notation, axiom, sorry.
-/
import Derived.Test.YtbecajihgbbgjaaDoorRows
import GoSem.ClaimSeven
namespace Go.Proofs.YtbecajihgbbgjaaDoor
namespace Rows

/-- THE TIED CARD OF 'attestorlaw14.TypecheckMatchesReference'. -/
def typecheckMatchesReferenceCard : Claim7 := { stood := { row := typecheckMatchesReferenceRow, standIns := [], harness := (true, "8c1f91d1f35b10df9aac23557543c47a126cceb8707ca0d31c4099ca748faaad"), looks := false }, kinds := [], alts := [], laidByText := true, laidKinds := [.data, .data], laidTests := true, laidLooks := .later }
def TypecheckMatchesReferenceCardSaid : Prop := Claim7.holds Tryd.pinned (.plain (OpenSpec.ofChange typecheckMatchesReferenceSpec)) typecheckMatchesReferenceCard

/-- THE TIED CARD OF 'attestorlaw14.TypecheckSound'. -/
def typecheckSoundCard : Claim7 := { stood := { row := typecheckSoundRow, standIns := [], harness := (true, "8c1f91d1f35b10df9aac23557543c47a126cceb8707ca0d31c4099ca748faaad"), looks := false }, kinds := [], alts := [], laidByText := true, laidKinds := [.data, .data], laidTests := true, laidLooks := .later }
def TypecheckSoundCardSaid : Prop := Claim7.holds Tryd.pinned (.plain (OpenSpec.ofChange typecheckSoundSpec)) typecheckSoundCard

/-- THE TIED CARD OF 'attestorlaw14.TypecheckTight'. -/
def typecheckTightCard : Claim7 := { stood := { row := typecheckTightRow, standIns := [], harness := (true, "8c1f91d1f35b10df9aac23557543c47a126cceb8707ca0d31c4099ca748faaad"), looks := false }, kinds := [], alts := [], laidByText := true, laidKinds := [.data, .data], laidTests := true, laidLooks := .later }
def TypecheckTightCardSaid : Prop := Claim7.holds Tryd.pinned (.plain (OpenSpec.ofChange typecheckTightSpec)) typecheckTightCard

/-- THE TIED CARD OF 'attestorlaw14.TypecheckMonotonic'. -/
def typecheckMonotonicCard : Claim7 := { stood := { row := typecheckMonotonicRow, standIns := [], harness := (true, "8c1f91d1f35b10df9aac23557543c47a126cceb8707ca0d31c4099ca748faaad"), looks := false }, kinds := [], alts := [], laidByText := true, laidKinds := [.data, .data], laidTests := true, laidLooks := .later }
def TypecheckMonotonicCardSaid : Prop := Claim7.holds Tryd.pinned (.plain (OpenSpec.ofChange typecheckMonotonicSpec)) typecheckMonotonicCard

/-- THE TIED CARD OF 'attestorlaw14.TypecheckRejects'. -/
def typecheckRejectsCard : Claim7 := { stood := { row := typecheckRejectsRow, standIns := [], harness := (true, "8c1f91d1f35b10df9aac23557543c47a126cceb8707ca0d31c4099ca748faaad"), looks := false }, kinds := [], alts := [], laidByText := true, laidKinds := [.data, .data], laidTests := true, laidLooks := .later }
def TypecheckRejectsCardSaid : Prop := Claim7.holds Tryd.pinned (.plain (OpenSpec.ofChange typecheckRejectsSpec)) typecheckRejectsCard

/-- THE TIED CARD OF 'attestorlaw14.TypecheckUnsatisfiable'. -/
def typecheckUnsatisfiableCard : Claim7 := { stood := { row := typecheckUnsatisfiableRow, standIns := [], harness := (true, "8c1f91d1f35b10df9aac23557543c47a126cceb8707ca0d31c4099ca748faaad"), looks := false }, kinds := [], alts := [], laidByText := true, laidKinds := [.data, .data], laidTests := true, laidLooks := .later }
def TypecheckUnsatisfiableCardSaid : Prop := Claim7.holds Tryd.pinned (.plain (OpenSpec.ofChange typecheckUnsatisfiableSpec)) typecheckUnsatisfiableCard

/-- THE TIED CARD OF 'attestorlaw14.TypecheckRows'. -/
def typecheckRowsCard : Claim7 := { stood := { row := typecheckRowsRow, standIns := [], harness := (true, "8c1f91d1f35b10df9aac23557543c47a126cceb8707ca0d31c4099ca748faaad"), looks := false }, kinds := [], alts := [], laidByText := true, laidKinds := [.data, .data], laidTests := true, laidLooks := .later }
def TypecheckRowsCardSaid : Prop := Claim7.holds Tryd.pinned (.plain (OpenSpec.ofChange typecheckRowsSpec)) typecheckRowsCard

/-- THE SECOND FORM's CARD OF 'attestorlaw14.TypecheckMatchesReference'. -/
def typecheckMatchesReferenceUptoCard : Claim7 := { stood := { row := typecheckMatchesReferenceUptoRow, standIns := [], harness := (true, "8c1f91d1f35b10df9aac23557543c47a126cceb8707ca0d31c4099ca748faaad"), looks := false }, kinds := [], alts := [], laidByText := true, laidKinds := [.data, .data], laidTests := true, laidLooks := .later }
def TypecheckMatchesReferenceUptoCardSaid : Prop := Claim7.holds Tryd.pinned (.plain (OpenSpec.upto typecheckMatchesReferenceSpec)) typecheckMatchesReferenceUptoCard

/-- THE SECOND FORM's CARD OF 'attestorlaw14.TypecheckSound'. -/
def typecheckSoundUptoCard : Claim7 := { stood := { row := typecheckSoundUptoRow, standIns := [], harness := (true, "8c1f91d1f35b10df9aac23557543c47a126cceb8707ca0d31c4099ca748faaad"), looks := false }, kinds := [], alts := [], laidByText := true, laidKinds := [.data, .data], laidTests := true, laidLooks := .later }
def TypecheckSoundUptoCardSaid : Prop := Claim7.holds Tryd.pinned (.plain (OpenSpec.upto typecheckSoundSpec)) typecheckSoundUptoCard

/-- THE SECOND FORM's CARD OF 'attestorlaw14.TypecheckTight'. -/
def typecheckTightUptoCard : Claim7 := { stood := { row := typecheckTightUptoRow, standIns := [], harness := (true, "8c1f91d1f35b10df9aac23557543c47a126cceb8707ca0d31c4099ca748faaad"), looks := false }, kinds := [], alts := [], laidByText := true, laidKinds := [.data, .data], laidTests := true, laidLooks := .later }
def TypecheckTightUptoCardSaid : Prop := Claim7.holds Tryd.pinned (.plain (OpenSpec.upto typecheckTightSpec)) typecheckTightUptoCard

/-- THE SECOND FORM's CARD OF 'attestorlaw14.TypecheckMonotonic'. -/
def typecheckMonotonicUptoCard : Claim7 := { stood := { row := typecheckMonotonicUptoRow, standIns := [], harness := (true, "8c1f91d1f35b10df9aac23557543c47a126cceb8707ca0d31c4099ca748faaad"), looks := false }, kinds := [], alts := [], laidByText := true, laidKinds := [.data, .data], laidTests := true, laidLooks := .later }
def TypecheckMonotonicUptoCardSaid : Prop := Claim7.holds Tryd.pinned (.plain (OpenSpec.upto typecheckMonotonicSpec)) typecheckMonotonicUptoCard

/-- THE SECOND FORM's CARD OF 'attestorlaw14.TypecheckRejects'. -/
def typecheckRejectsUptoCard : Claim7 := { stood := { row := typecheckRejectsUptoRow, standIns := [], harness := (true, "8c1f91d1f35b10df9aac23557543c47a126cceb8707ca0d31c4099ca748faaad"), looks := false }, kinds := [], alts := [], laidByText := true, laidKinds := [.data, .data], laidTests := true, laidLooks := .later }
def TypecheckRejectsUptoCardSaid : Prop := Claim7.holds Tryd.pinned (.plain (OpenSpec.upto typecheckRejectsSpec)) typecheckRejectsUptoCard

/-- THE SECOND FORM's CARD OF 'attestorlaw14.TypecheckUnsatisfiable'. -/
def typecheckUnsatisfiableUptoCard : Claim7 := { stood := { row := typecheckUnsatisfiableUptoRow, standIns := [], harness := (true, "8c1f91d1f35b10df9aac23557543c47a126cceb8707ca0d31c4099ca748faaad"), looks := false }, kinds := [], alts := [], laidByText := true, laidKinds := [.data, .data], laidTests := true, laidLooks := .later }
def TypecheckUnsatisfiableUptoCardSaid : Prop := Claim7.holds Tryd.pinned (.plain (OpenSpec.upto typecheckUnsatisfiableSpec)) typecheckUnsatisfiableUptoCard

/-- THE SECOND FORM's CARD OF 'attestorlaw14.TypecheckRows'. -/
def typecheckRowsUptoCard : Claim7 := { stood := { row := typecheckRowsUptoRow, standIns := [], harness := (true, "8c1f91d1f35b10df9aac23557543c47a126cceb8707ca0d31c4099ca748faaad"), looks := false }, kinds := [], alts := [], laidByText := true, laidKinds := [.data, .data], laidTests := true, laidLooks := .later }
def TypecheckRowsUptoCardSaid : Prop := Claim7.holds Tryd.pinned (.plain (OpenSpec.upto typecheckRowsSpec)) typecheckRowsUptoCard
end Rows
end Go.Proofs.YtbecajihgbbgjaaDoor
