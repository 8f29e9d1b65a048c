/-
  DERIVED. GIVEN WITH THE SEED: THE CARDS: each row of YtcephdkcjcbanaaDoorRows.lean that lists a variable, with what it lists TIED to the program's text (the seventh form; the later family's looks); each row that meets fmt, with fmt's text TOLD by the authors' own Lean function (tested against real Go, not proved from fmt's source: count such statements apart). THE CARD IS WHAT COUNTS. Prove the row's statement (the work); the ties are given (YtcephdkcjcbanaaDoorTie.lean); close each card by the builder's one call (the guide's Derived/Test/ToyasCard.lean, 'card_holds'). Laid BY PROGRAM, IN A SANDBOX (cutbox-door.mjs). By AI agents, Wed Nov 11 2026. No macro, syntax, notation, axiom, sorry.
-/
import Derived.Test.YtcephdkcjcbanaaDoorRows
import GoSem.ClaimSeven
namespace Go.Proofs.YtcephdkcjcbanaaDoor
namespace Rows

/-- THE TIED CARD OF 'attestorlaw08.MerkleMatchesReference'. -/
def merkleMatchesReferenceCard : Claim7 := { stood := { row := merkleMatchesReferenceRow, standIns := [], harness := (true, "5039ab1dc520e6aba6d1d879b468cb4588b87616802e7180a7b38d7c2eba0315"), looks := false }, kinds := [], alts := [], laidByText := true, laidKinds := [.data, .data], laidTests := true, laidLooks := .later }
def MerkleMatchesReferenceCardSaid : Prop := Claim7.holds Tryd.pinned (.plain (OpenSpec.ofChange merkleMatchesReferenceSpec)) merkleMatchesReferenceCard

/-- THE TIED CARD OF 'attestorlaw08.MerkleChecksMatchReference'. -/
def merkleChecksMatchReferenceCard : Claim7 := { stood := { row := merkleChecksMatchReferenceRow, standIns := [], harness := (true, "5039ab1dc520e6aba6d1d879b468cb4588b87616802e7180a7b38d7c2eba0315"), looks := false }, kinds := [], alts := [], laidByText := true, laidKinds := [.data, .data], laidTests := true, laidLooks := .later }
def MerkleChecksMatchReferenceCardSaid : Prop := Claim7.holds Tryd.pinned (.plain (OpenSpec.ofChange merkleChecksMatchReferenceSpec)) merkleChecksMatchReferenceCard

/-- THE TIED CARD OF 'attestorlaw08.MerkleOpenings'. -/
def merkleOpeningsCard : Claim7 := { stood := { row := merkleOpeningsRow, standIns := [], harness := (true, "5039ab1dc520e6aba6d1d879b468cb4588b87616802e7180a7b38d7c2eba0315"), looks := false }, kinds := [], alts := [], laidByText := true, laidKinds := [.data, .data], laidTests := true, laidLooks := .later }
def MerkleOpeningsCardSaid : Prop := Claim7.holds Tryd.pinned (.plain (OpenSpec.ofChange merkleOpeningsSpec)) merkleOpeningsCard

/-- THE TIED CARD OF 'attestorlaw08.MerkleGrowing'. -/
def merkleGrowingCard : Claim7 := { stood := { row := merkleGrowingRow, standIns := [], harness := (true, "5039ab1dc520e6aba6d1d879b468cb4588b87616802e7180a7b38d7c2eba0315"), looks := false }, kinds := [], alts := [], laidByText := true, laidKinds := [.data, .data], laidTests := true, laidLooks := .later }
def MerkleGrowingCardSaid : Prop := Claim7.holds Tryd.pinned (.plain (OpenSpec.ofChange merkleGrowingSpec)) merkleGrowingCard

/-- THE TIED CARD OF 'attestorlaw08.MerkleParts'. -/
def merklePartsCard : Claim7 := { stood := { row := merklePartsRow, standIns := [], harness := (true, "5039ab1dc520e6aba6d1d879b468cb4588b87616802e7180a7b38d7c2eba0315"), looks := false }, kinds := [], alts := [], laidByText := true, laidKinds := [.data, .data], laidTests := true, laidLooks := .later }
def MerklePartsCardSaid : Prop := Claim7.holds Tryd.pinned (.plain (OpenSpec.ofChange merklePartsSpec)) merklePartsCard

/-- THE TIED CARD OF 'attestorlaw08.MerkleSizes'. -/
def merkleSizesCard : Claim7 := { stood := { row := merkleSizesRow, standIns := [], harness := (true, "5039ab1dc520e6aba6d1d879b468cb4588b87616802e7180a7b38d7c2eba0315"), looks := false }, kinds := [], alts := [], laidByText := true, laidKinds := [.data, .data], laidTests := true, laidLooks := .later }
def MerkleSizesCardSaid : Prop := Claim7.holds Tryd.pinned (.plain (OpenSpec.ofChange merkleSizesSpec)) merkleSizesCard

/-- THE SECOND FORM's CARD OF 'attestorlaw08.MerkleMatchesReference'. -/
def merkleMatchesReferenceUptoCard : Claim7 := { stood := { row := merkleMatchesReferenceUptoRow, standIns := [], harness := (true, "5039ab1dc520e6aba6d1d879b468cb4588b87616802e7180a7b38d7c2eba0315"), looks := false }, kinds := [], alts := [], laidByText := true, laidKinds := [.data, .data], laidTests := true, laidLooks := .later }
def MerkleMatchesReferenceUptoCardSaid : Prop := Claim7.holds Tryd.pinned (.plain (OpenSpec.upto merkleMatchesReferenceSpec)) merkleMatchesReferenceUptoCard

/-- THE SECOND FORM's CARD OF 'attestorlaw08.MerkleChecksMatchReference'. -/
def merkleChecksMatchReferenceUptoCard : Claim7 := { stood := { row := merkleChecksMatchReferenceUptoRow, standIns := [], harness := (true, "5039ab1dc520e6aba6d1d879b468cb4588b87616802e7180a7b38d7c2eba0315"), looks := false }, kinds := [], alts := [], laidByText := true, laidKinds := [.data, .data], laidTests := true, laidLooks := .later }
def MerkleChecksMatchReferenceUptoCardSaid : Prop := Claim7.holds Tryd.pinned (.plain (OpenSpec.upto merkleChecksMatchReferenceSpec)) merkleChecksMatchReferenceUptoCard

/-- THE SECOND FORM's CARD OF 'attestorlaw08.MerkleOpenings'. -/
def merkleOpeningsUptoCard : Claim7 := { stood := { row := merkleOpeningsUptoRow, standIns := [], harness := (true, "5039ab1dc520e6aba6d1d879b468cb4588b87616802e7180a7b38d7c2eba0315"), looks := false }, kinds := [], alts := [], laidByText := true, laidKinds := [.data, .data], laidTests := true, laidLooks := .later }
def MerkleOpeningsUptoCardSaid : Prop := Claim7.holds Tryd.pinned (.plain (OpenSpec.upto merkleOpeningsSpec)) merkleOpeningsUptoCard

/-- THE SECOND FORM's CARD OF 'attestorlaw08.MerkleGrowing'. -/
def merkleGrowingUptoCard : Claim7 := { stood := { row := merkleGrowingUptoRow, standIns := [], harness := (true, "5039ab1dc520e6aba6d1d879b468cb4588b87616802e7180a7b38d7c2eba0315"), looks := false }, kinds := [], alts := [], laidByText := true, laidKinds := [.data, .data], laidTests := true, laidLooks := .later }
def MerkleGrowingUptoCardSaid : Prop := Claim7.holds Tryd.pinned (.plain (OpenSpec.upto merkleGrowingSpec)) merkleGrowingUptoCard

/-- THE SECOND FORM's CARD OF 'attestorlaw08.MerkleParts'. -/
def merklePartsUptoCard : Claim7 := { stood := { row := merklePartsUptoRow, standIns := [], harness := (true, "5039ab1dc520e6aba6d1d879b468cb4588b87616802e7180a7b38d7c2eba0315"), looks := false }, kinds := [], alts := [], laidByText := true, laidKinds := [.data, .data], laidTests := true, laidLooks := .later }
def MerklePartsUptoCardSaid : Prop := Claim7.holds Tryd.pinned (.plain (OpenSpec.upto merklePartsSpec)) merklePartsUptoCard

/-- THE SECOND FORM's CARD OF 'attestorlaw08.MerkleSizes'. -/
def merkleSizesUptoCard : Claim7 := { stood := { row := merkleSizesUptoRow, standIns := [], harness := (true, "5039ab1dc520e6aba6d1d879b468cb4588b87616802e7180a7b38d7c2eba0315"), looks := false }, kinds := [], alts := [], laidByText := true, laidKinds := [.data, .data], laidTests := true, laidLooks := .later }
def MerkleSizesUptoCardSaid : Prop := Claim7.holds Tryd.pinned (.plain (OpenSpec.upto merkleSizesSpec)) merkleSizesUptoCard
end Rows
end Go.Proofs.YtcephdkcjcbanaaDoor
