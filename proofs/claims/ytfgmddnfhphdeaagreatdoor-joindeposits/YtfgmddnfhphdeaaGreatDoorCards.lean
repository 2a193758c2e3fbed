/-
  DERIVED. GIVEN WITH THE SEED: THE CARDS: each row of YtfgmddnfhphdeaaGreatDoorRows.lean that lists a variable, with what it lists TIED to the program's text (the seventh form; the later family's looks); each row that meets fmt, with fmt's text TOLD by the authors' own Lean function (tested against real Go, not proved from fmt's source: count such statements apart). THE CARD IS WHAT COUNTS. Prove the row's statement (the work); the ties are given (YtfgmddnfhphdeaaGreatDoorTie.lean); close each card by the builder's one call (the guide's Derived/Test/ToyasCard.lean, 'card_holds'). Laid BY PROGRAM, IN A SANDBOX (cutbox-door.mjs). By AI agents, Wed Nov 11 2026. No macro, syntax, notation, axiom, sorry.
-/
import Derived.Test.YtfgmddnfhphdeaaGreatDoorRows
import GoSem.ClaimSeven
namespace Go.Proofs.YtfgmddnfhphdeaaGreatDoor
namespace Rows

/-- THE TIED CARD OF 'pharoslaw20.JoinDeposits'. -/
def joinDepositsCard : Claim7 := { stood := { row := joinDepositsRow, standIns := [], harness := (true, "f55f7635147481153322f6dc0b4080bc7f1f949c75a967d9fd85ac01685b2c3d"), looks := false }, kinds := [], alts := [], laidByText := true, laidKinds := [.data, .data, .data], laidTests := true, laidLooks := .later }
def JoinDepositsCardSaid : Prop := Claim7.holds Tryz.pinned (.plain (OpenSpec.ofChange joinDepositsSpec)) joinDepositsCard

/-- THE SECOND FORM's CARD OF 'pharoslaw20.JoinDeposits'. -/
def joinDepositsUptoCard : Claim7 := { stood := { row := joinDepositsUptoRow, standIns := [], harness := (true, "f55f7635147481153322f6dc0b4080bc7f1f949c75a967d9fd85ac01685b2c3d"), looks := false }, kinds := [], alts := [], laidByText := true, laidKinds := [.data, .data, .data], laidTests := true, laidLooks := .later }
def JoinDepositsUptoCardSaid : Prop := Claim7.holds Tryz.pinned (.plain (OpenSpec.upto joinDepositsSpec)) joinDepositsUptoCard
end Rows
end Go.Proofs.YtfgmddnfhphdeaaGreatDoor
