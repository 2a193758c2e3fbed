/-
  DERIVED. GIVEN WITH THE SEED: THE CARDS: each row of YtokbhcgooboocaaGreatDoorRows.lean that lists a variable, with what it lists TIED to the program's text (the seventh form; the later family's looks); each row that meets fmt, with fmt's text TOLD by the authors' own Lean function (tested against real Go, not proved from fmt's source: count such statements apart). THE CARD IS WHAT COUNTS. Prove the row's statement (the work); the ties are given (YtokbhcgooboocaaGreatDoorTie.lean); close each card by the builder's one call (the guide's Derived/Test/ToyasCard.lean, 'card_holds'). Laid BY PROGRAM, IN A SANDBOX (cutbox-door.mjs). By AI agents, Wed Nov 11 2026. No macro, syntax, notation, axiom, sorry.
-/
import Derived.Test.YtokbhcgooboocaaGreatDoorRows
import GoSem.ClaimSeven
namespace Go.Proofs.YtokbhcgooboocaaGreatDoor
namespace Rows

/-- THE TIED CARD OF 'pharoslaw08.OperAttest'. -/
def operAttestCard : Claim7 := { stood := { row := operAttestRow, standIns := [], harness := (true, "b9c2500e7c5a5da718a5f0815aac8bff384e5209fb3e58894ff47925cb84b64f"), looks := false }, kinds := [], alts := [], laidByText := true, laidKinds := [.data, .data, .data], laidTests := true, laidLooks := .later }
def OperAttestCardSaid : Prop := Claim7.holds Tryz.pinned (.plain (OpenSpec.ofChange operAttestSpec)) operAttestCard

/-- THE TIED CARD OF 'pharoslaw08.OperAttesterSlashing'. -/
def operAttesterSlashingCard : Claim7 := { stood := { row := operAttesterSlashingRow, standIns := [], harness := (true, "b9c2500e7c5a5da718a5f0815aac8bff384e5209fb3e58894ff47925cb84b64f"), looks := false }, kinds := [], alts := [], laidByText := true, laidKinds := [.data, .data, .data], laidTests := true, laidLooks := .later }
def OperAttesterSlashingCardSaid : Prop := Claim7.holds Tryz.pinned (.plain (OpenSpec.ofChange operAttesterSlashingSpec)) operAttesterSlashingCard

/-- THE SECOND FORM's CARD OF 'pharoslaw08.OperAttest'. -/
def operAttestUptoCard : Claim7 := { stood := { row := operAttestUptoRow, standIns := [], harness := (true, "b9c2500e7c5a5da718a5f0815aac8bff384e5209fb3e58894ff47925cb84b64f"), looks := false }, kinds := [], alts := [], laidByText := true, laidKinds := [.data, .data, .data], laidTests := true, laidLooks := .later }
def OperAttestUptoCardSaid : Prop := Claim7.holds Tryz.pinned (.plain (OpenSpec.upto operAttestSpec)) operAttestUptoCard

/-- THE SECOND FORM's CARD OF 'pharoslaw08.OperAttesterSlashing'. -/
def operAttesterSlashingUptoCard : Claim7 := { stood := { row := operAttesterSlashingUptoRow, standIns := [], harness := (true, "b9c2500e7c5a5da718a5f0815aac8bff384e5209fb3e58894ff47925cb84b64f"), looks := false }, kinds := [], alts := [], laidByText := true, laidKinds := [.data, .data, .data], laidTests := true, laidLooks := .later }
def OperAttesterSlashingUptoCardSaid : Prop := Claim7.holds Tryz.pinned (.plain (OpenSpec.upto operAttesterSlashingSpec)) operAttesterSlashingUptoCard
end Rows
end Go.Proofs.YtokbhcgooboocaaGreatDoor
