/-
  DERIVED. GIVEN WITH THE SEED: THE CARDS: each row of YtahnlfiahchdeaaDoorRows.lean that lists a variable, with what it lists TIED to the program's text (the seventh form; the later family's looks); each row that meets fmt, with fmt's text TOLD by the authors' own Lean function (tested against real Go, not proved from fmt's source: count such statements apart). THE CARD IS WHAT COUNTS. Prove the row's statement (the work); the ties are given (YtahnlfiahchdeaaDoorTie.lean); close each card by the builder's one call (the guide's Derived/Test/ToyasCard.lean, 'card_holds'). Laid BY PROGRAM, IN A SANDBOX (cutbox-door.mjs). By AI agents, Wed Nov 11 2026. No macro, syntax, notation, axiom, sorry.
-/
import Derived.Test.YtahnlfiahchdeaaDoorRows
import GoSem.ClaimSeven
namespace Go.Proofs.YtahnlfiahchdeaaDoor
namespace Rows

/-- THE TIED CARD OF 'pharoslaw05.MerkleTrees'. -/
def merkleTreesCard : Claim7 := { stood := { row := merkleTreesRow, standIns := [], harness := (true, "704423a76242df80714ad176d0dacd9de50a7e063babbca97075771c78901900"), looks := false }, kinds := [], alts := [], laidByText := true, laidKinds := [.data, .data, .data], laidTests := true, laidLooks := .later }
def MerkleTreesCardSaid : Prop := Claim7.holds Tryd.pinned (.plain (OpenSpec.ofChange merkleTreesSpec)) merkleTreesCard

/-- THE TIED CARD OF 'pharoslaw05.MerkleBranches'. -/
def merkleBranchesCard : Claim7 := { stood := { row := merkleBranchesRow, standIns := [], harness := (true, "704423a76242df80714ad176d0dacd9de50a7e063babbca97075771c78901900"), looks := false }, kinds := [], alts := [], laidByText := true, laidKinds := [.data, .data, .data], laidTests := true, laidLooks := .later }
def MerkleBranchesCardSaid : Prop := Claim7.holds Tryd.pinned (.plain (OpenSpec.ofChange merkleBranchesSpec)) merkleBranchesCard

/-- THE TIED CARD OF 'pharoslaw05.MerkleHolds'. -/
def merkleHoldsCard : Claim7 := { stood := { row := merkleHoldsRow, standIns := [], harness := (true, "704423a76242df80714ad176d0dacd9de50a7e063babbca97075771c78901900"), looks := false }, kinds := [], alts := [], laidByText := true, laidKinds := [.data, .data, .data], laidTests := true, laidLooks := .later }
def MerkleHoldsCardSaid : Prop := Claim7.holds Tryd.pinned (.plain (OpenSpec.ofChange merkleHoldsSpec)) merkleHoldsCard

/-- THE TIED CARD OF 'pharoslaw05.MerkleHalves'. -/
def merkleHalvesCard : Claim7 := { stood := { row := merkleHalvesRow, standIns := [], harness := (true, "704423a76242df80714ad176d0dacd9de50a7e063babbca97075771c78901900"), looks := false }, kinds := [], alts := [], laidByText := true, laidKinds := [.data, .data], laidTests := true, laidLooks := .later }
def MerkleHalvesCardSaid : Prop := Claim7.holds Tryd.pinned (.plain (OpenSpec.ofChange merkleHalvesSpec)) merkleHalvesCard

/-- THE TIED CARD OF 'pharoslaw05.MerkleMixes'. -/
def merkleMixesCard : Claim7 := { stood := { row := merkleMixesRow, standIns := [], harness := (true, "704423a76242df80714ad176d0dacd9de50a7e063babbca97075771c78901900"), looks := false }, kinds := [], alts := [], laidByText := true, laidKinds := [.data, .data], laidTests := true, laidLooks := .later }
def MerkleMixesCardSaid : Prop := Claim7.holds Tryd.pinned (.plain (OpenSpec.ofChange merkleMixesSpec)) merkleMixesCard

/-- THE TIED CARD OF 'pharoslaw05.MerklePacks'. -/
def merklePacksCard : Claim7 := { stood := { row := merklePacksRow, standIns := [], harness := (true, "704423a76242df80714ad176d0dacd9de50a7e063babbca97075771c78901900"), looks := false }, kinds := [], alts := [], laidByText := true, laidKinds := [.data, .data], laidTests := true, laidLooks := .later }
def MerklePacksCardSaid : Prop := Claim7.holds Tryd.pinned (.plain (OpenSpec.ofChange merklePacksSpec)) merklePacksCard

/-- THE SECOND FORM's CARD OF 'pharoslaw05.MerkleTrees'. -/
def merkleTreesUptoCard : Claim7 := { stood := { row := merkleTreesUptoRow, standIns := [], harness := (true, "704423a76242df80714ad176d0dacd9de50a7e063babbca97075771c78901900"), looks := false }, kinds := [], alts := [], laidByText := true, laidKinds := [.data, .data, .data], laidTests := true, laidLooks := .later }
def MerkleTreesUptoCardSaid : Prop := Claim7.holds Tryd.pinned (.plain (OpenSpec.upto merkleTreesSpec)) merkleTreesUptoCard

/-- THE SECOND FORM's CARD OF 'pharoslaw05.MerkleBranches'. -/
def merkleBranchesUptoCard : Claim7 := { stood := { row := merkleBranchesUptoRow, standIns := [], harness := (true, "704423a76242df80714ad176d0dacd9de50a7e063babbca97075771c78901900"), looks := false }, kinds := [], alts := [], laidByText := true, laidKinds := [.data, .data, .data], laidTests := true, laidLooks := .later }
def MerkleBranchesUptoCardSaid : Prop := Claim7.holds Tryd.pinned (.plain (OpenSpec.upto merkleBranchesSpec)) merkleBranchesUptoCard

/-- THE SECOND FORM's CARD OF 'pharoslaw05.MerkleHolds'. -/
def merkleHoldsUptoCard : Claim7 := { stood := { row := merkleHoldsUptoRow, standIns := [], harness := (true, "704423a76242df80714ad176d0dacd9de50a7e063babbca97075771c78901900"), looks := false }, kinds := [], alts := [], laidByText := true, laidKinds := [.data, .data, .data], laidTests := true, laidLooks := .later }
def MerkleHoldsUptoCardSaid : Prop := Claim7.holds Tryd.pinned (.plain (OpenSpec.upto merkleHoldsSpec)) merkleHoldsUptoCard

/-- THE SECOND FORM's CARD OF 'pharoslaw05.MerkleHalves'. -/
def merkleHalvesUptoCard : Claim7 := { stood := { row := merkleHalvesUptoRow, standIns := [], harness := (true, "704423a76242df80714ad176d0dacd9de50a7e063babbca97075771c78901900"), looks := false }, kinds := [], alts := [], laidByText := true, laidKinds := [.data, .data], laidTests := true, laidLooks := .later }
def MerkleHalvesUptoCardSaid : Prop := Claim7.holds Tryd.pinned (.plain (OpenSpec.upto merkleHalvesSpec)) merkleHalvesUptoCard

/-- THE SECOND FORM's CARD OF 'pharoslaw05.MerkleMixes'. -/
def merkleMixesUptoCard : Claim7 := { stood := { row := merkleMixesUptoRow, standIns := [], harness := (true, "704423a76242df80714ad176d0dacd9de50a7e063babbca97075771c78901900"), looks := false }, kinds := [], alts := [], laidByText := true, laidKinds := [.data, .data], laidTests := true, laidLooks := .later }
def MerkleMixesUptoCardSaid : Prop := Claim7.holds Tryd.pinned (.plain (OpenSpec.upto merkleMixesSpec)) merkleMixesUptoCard

/-- THE SECOND FORM's CARD OF 'pharoslaw05.MerklePacks'. -/
def merklePacksUptoCard : Claim7 := { stood := { row := merklePacksUptoRow, standIns := [], harness := (true, "704423a76242df80714ad176d0dacd9de50a7e063babbca97075771c78901900"), looks := false }, kinds := [], alts := [], laidByText := true, laidKinds := [.data, .data], laidTests := true, laidLooks := .later }
def MerklePacksUptoCardSaid : Prop := Claim7.holds Tryd.pinned (.plain (OpenSpec.upto merklePacksSpec)) merklePacksUptoCard
end Rows
end Go.Proofs.YtahnlfiahchdeaaDoor
