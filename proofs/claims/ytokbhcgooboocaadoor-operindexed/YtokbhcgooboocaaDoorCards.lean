/-
  DERIVED. GIVEN WITH THE SEED: THE CARDS: each row of YtokbhcgooboocaaDoorRows.lean that lists a variable, with what it lists TIED to the program's text (the seventh form; the later family's looks); each row that meets fmt, with fmt's text TOLD by the authors' own Lean function (tested against real Go, not proved from fmt's source: count such statements apart). THE CARD IS WHAT COUNTS. Prove the row's statement (the work); the ties are given (YtokbhcgooboocaaDoorTie.lean); close each card by the builder's one call (the guide's Derived/Test/ToyasCard.lean, 'card_holds'). Laid BY PROGRAM, IN A SANDBOX (cutbox-door.mjs). By AI agents, Wed Nov 11 2026. No macro, syntax, notation, axiom, sorry.
-/
import Derived.Test.YtokbhcgooboocaaDoorRows
import GoSem.ClaimSeven
namespace Go.Proofs.YtokbhcgooboocaaDoor
namespace Rows

/-- THE TIED CARD OF 'pharoslaw08.OperIndexed'. -/
def operIndexedCard : Claim7 := { stood := { row := operIndexedRow, standIns := [], harness := (true, "9c3ec438d6925ce60aa19df1b9bae5b6f4103e2c381342e727c6a97d5c9305de"), looks := false }, kinds := [], alts := [], laidByText := true, laidKinds := [.data, .data, .data], laidTests := true, laidLooks := .later }
def OperIndexedCardSaid : Prop := Claim7.holds Tryd.pinned (.plain (OpenSpec.ofChange operIndexedSpec)) operIndexedCard

/-- THE TIED CARD OF 'pharoslaw08.OperProposerSlashing'. -/
def operProposerSlashingCard : Claim7 := { stood := { row := operProposerSlashingRow, standIns := [], harness := (true, "9c3ec438d6925ce60aa19df1b9bae5b6f4103e2c381342e727c6a97d5c9305de"), looks := false }, kinds := [], alts := [], laidByText := true, laidKinds := [.data, .data, .data], laidTests := true, laidLooks := .later }
def OperProposerSlashingCardSaid : Prop := Claim7.holds Tryd.pinned (.plain (OpenSpec.ofChange operProposerSlashingSpec)) operProposerSlashingCard

/-- THE TIED CARD OF 'pharoslaw08.OperDeposit'. -/
def operDepositCard : Claim7 := { stood := { row := operDepositRow, standIns := [], harness := (true, "9c3ec438d6925ce60aa19df1b9bae5b6f4103e2c381342e727c6a97d5c9305de"), looks := false }, kinds := [], alts := [], laidByText := true, laidKinds := [.data, .data, .data], laidTests := true, laidLooks := .later }
def OperDepositCardSaid : Prop := Claim7.holds Tryd.pinned (.plain (OpenSpec.ofChange operDepositSpec)) operDepositCard

/-- THE SECOND FORM's CARD OF 'pharoslaw08.OperIndexed'. -/
def operIndexedUptoCard : Claim7 := { stood := { row := operIndexedUptoRow, standIns := [], harness := (true, "9c3ec438d6925ce60aa19df1b9bae5b6f4103e2c381342e727c6a97d5c9305de"), looks := false }, kinds := [], alts := [], laidByText := true, laidKinds := [.data, .data, .data], laidTests := true, laidLooks := .later }
def OperIndexedUptoCardSaid : Prop := Claim7.holds Tryd.pinned (.plain (OpenSpec.upto operIndexedSpec)) operIndexedUptoCard

/-- THE SECOND FORM's CARD OF 'pharoslaw08.OperProposerSlashing'. -/
def operProposerSlashingUptoCard : Claim7 := { stood := { row := operProposerSlashingUptoRow, standIns := [], harness := (true, "9c3ec438d6925ce60aa19df1b9bae5b6f4103e2c381342e727c6a97d5c9305de"), looks := false }, kinds := [], alts := [], laidByText := true, laidKinds := [.data, .data, .data], laidTests := true, laidLooks := .later }
def OperProposerSlashingUptoCardSaid : Prop := Claim7.holds Tryd.pinned (.plain (OpenSpec.upto operProposerSlashingSpec)) operProposerSlashingUptoCard

/-- THE SECOND FORM's CARD OF 'pharoslaw08.OperDeposit'. -/
def operDepositUptoCard : Claim7 := { stood := { row := operDepositUptoRow, standIns := [], harness := (true, "9c3ec438d6925ce60aa19df1b9bae5b6f4103e2c381342e727c6a97d5c9305de"), looks := false }, kinds := [], alts := [], laidByText := true, laidKinds := [.data, .data, .data], laidTests := true, laidLooks := .later }
def OperDepositUptoCardSaid : Prop := Claim7.holds Tryd.pinned (.plain (OpenSpec.upto operDepositSpec)) operDepositUptoCard
end Rows
end Go.Proofs.YtokbhcgooboocaaDoor
