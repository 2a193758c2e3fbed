/-
  DERIVED. GIVEN WITH THE SEED: THE CARDS: each row of YtpnpmgeokicpjaaGreatDoorRows.lean that lists a variable, with what it lists TIED to the program's text (the seventh form; the later family's looks); each row that meets fmt, with fmt's text TOLD by the authors' own Lean function (tested against real Go, not proved from fmt's source: count such statements apart). THE CARD IS WHAT COUNTS. Prove the row's statement (the work); the ties are given (YtpnpmgeokicpjaaGreatDoorTie.lean); close each card by the builder's one call (the guide's Derived/Test/ToyasCard.lean, 'card_holds'). Laid BY PROGRAM, IN A SANDBOX (cutbox-door.mjs). By AI agents, Wed Nov 11 2026. No macro, syntax, notation, axiom, sorry.
-/
import Derived.Test.YtpnpmgeokicpjaaGreatDoorRows
import GoSem.ClaimSeven
namespace Go.Proofs.YtpnpmgeokicpjaaGreatDoor
namespace Rows

/-- THE TIED CARD OF 'pharoslaw18.SlashLeaves'. -/
def slashLeavesCard : Claim7 := { stood := { row := slashLeavesRow, standIns := [], harness := (true, "51a5a8996898bf66417567645bab18b6fe0dd479e29c0e1b2cd8d99841ce2f26"), looks := false }, kinds := [], alts := [], laidByText := true, laidKinds := [.data, .data, .data], laidTests := true, laidLooks := .later }
def SlashLeavesCardSaid : Prop := Claim7.holds Tryz.pinned (.plain (OpenSpec.ofChange slashLeavesSpec)) slashLeavesCard

/-- THE SECOND FORM's CARD OF 'pharoslaw18.SlashLeaves'. -/
def slashLeavesUptoCard : Claim7 := { stood := { row := slashLeavesUptoRow, standIns := [], harness := (true, "51a5a8996898bf66417567645bab18b6fe0dd479e29c0e1b2cd8d99841ce2f26"), looks := false }, kinds := [], alts := [], laidByText := true, laidKinds := [.data, .data, .data], laidTests := true, laidLooks := .later }
def SlashLeavesUptoCardSaid : Prop := Claim7.holds Tryz.pinned (.plain (OpenSpec.upto slashLeavesSpec)) slashLeavesUptoCard
end Rows
end Go.Proofs.YtpnpmgeokicpjaaGreatDoor
