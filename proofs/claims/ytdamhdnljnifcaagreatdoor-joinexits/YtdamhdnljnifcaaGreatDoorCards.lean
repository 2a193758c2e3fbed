/-
  DERIVED. GIVEN WITH THE SEED: THE CARDS: each row of YtdamhdnljnifcaaGreatDoorRows.lean that lists a variable, with what it lists TIED to the program's text (the seventh form; the later family's looks); each row that meets fmt, with fmt's text TOLD by the authors' own Lean function (tested against real Go, not proved from fmt's source: count such statements apart). THE CARD IS WHAT COUNTS. Prove the row's statement (the work); the ties are given (YtdamhdnljnifcaaGreatDoorTie.lean); close each card by the builder's one call (the guide's Derived/Test/ToyasCard.lean, 'card_holds'). Laid BY PROGRAM, IN A SANDBOX (cutbox-door.mjs). By AI agents, Wed Nov 11 2026. No macro, syntax, notation, axiom, sorry.
-/
import Derived.Test.YtdamhdnljnifcaaGreatDoorRows
import GoSem.ClaimSeven
namespace Go.Proofs.YtdamhdnljnifcaaGreatDoor
namespace Rows

/-- THE TIED CARD OF 'pharoslaw20.JoinDeposits'. -/
def joinDepositsCard : Claim7 := { stood := { row := joinDepositsRow, standIns := [], harness := (true, "d244045c2a6dcbc0d40221926936b09572ec41719ad585d8334052a25cae8b82"), looks := false }, kinds := [], alts := [], laidByText := true, laidKinds := [.data, .data, .data], laidTests := true, laidLooks := .later }
def JoinDepositsCardSaid : Prop := Claim7.holds Tryz.pinned (.plain (OpenSpec.ofChange joinDepositsSpec)) joinDepositsCard

/-- THE TIED CARD OF 'pharoslaw20.JoinExits'. -/
def joinExitsCard : Claim7 := { stood := { row := joinExitsRow, standIns := [], harness := (true, "d244045c2a6dcbc0d40221926936b09572ec41719ad585d8334052a25cae8b82"), looks := false }, kinds := [], alts := [], laidByText := true, laidKinds := [.data, .data, .data], laidTests := true, laidLooks := .later }
def JoinExitsCardSaid : Prop := Claim7.holds Tryz.pinned (.plain (OpenSpec.ofChange joinExitsSpec)) joinExitsCard

/-- THE SECOND FORM's CARD OF 'pharoslaw20.JoinDeposits'. -/
def joinDepositsUptoCard : Claim7 := { stood := { row := joinDepositsUptoRow, standIns := [], harness := (true, "d244045c2a6dcbc0d40221926936b09572ec41719ad585d8334052a25cae8b82"), looks := false }, kinds := [], alts := [], laidByText := true, laidKinds := [.data, .data, .data], laidTests := true, laidLooks := .later }
def JoinDepositsUptoCardSaid : Prop := Claim7.holds Tryz.pinned (.plain (OpenSpec.upto joinDepositsSpec)) joinDepositsUptoCard

/-- THE SECOND FORM's CARD OF 'pharoslaw20.JoinExits'. -/
def joinExitsUptoCard : Claim7 := { stood := { row := joinExitsUptoRow, standIns := [], harness := (true, "d244045c2a6dcbc0d40221926936b09572ec41719ad585d8334052a25cae8b82"), looks := false }, kinds := [], alts := [], laidByText := true, laidKinds := [.data, .data, .data], laidTests := true, laidLooks := .later }
def JoinExitsUptoCardSaid : Prop := Claim7.holds Tryz.pinned (.plain (OpenSpec.upto joinExitsSpec)) joinExitsUptoCard
end Rows
end Go.Proofs.YtdamhdnljnifcaaGreatDoor
