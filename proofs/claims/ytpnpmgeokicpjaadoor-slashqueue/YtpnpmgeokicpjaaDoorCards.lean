/-
  DERIVED. GIVEN WITH THE SEED: THE CARDS: each row of YtpnpmgeokicpjaaDoorRows.lean that lists a variable, with what it lists TIED to the program's text (the seventh form; the later family's looks); each row that meets fmt, with fmt's text TOLD by the authors' own Lean function (tested against real Go, not proved from fmt's source: count such statements apart). THE CARD IS WHAT COUNTS. Prove the row's statement (the work); the ties are given (YtpnpmgeokicpjaaDoorTie.lean); close each card by the builder's one call (the guide's Derived/Test/ToyasCard.lean, 'card_holds'). Laid BY PROGRAM, IN A SANDBOX (cutbox-door.mjs). By AI agents, Wed Nov 11 2026. No macro, syntax, notation, axiom, sorry.
-/
import Derived.Test.YtpnpmgeokicpjaaDoorRows
import GoSem.ClaimSeven
namespace Go.Proofs.YtpnpmgeokicpjaaDoor
namespace Rows

/-- THE TIED CARD OF 'pharoslaw18.SlashQueue'. -/
def slashQueueCard : Claim7 := { stood := { row := slashQueueRow, standIns := [], harness := (true, "e6eac408beaa113e6077837c0261770b31ee2f18c5d40a2c6ca38861acf98bd6"), looks := false }, kinds := [], alts := [], laidByText := true, laidKinds := [.data, .data], laidTests := true, laidLooks := .later }
def SlashQueueCardSaid : Prop := Claim7.holds Tryd.pinned (.plain (OpenSpec.ofChange slashQueueSpec)) slashQueueCard

/-- THE SECOND FORM's CARD OF 'pharoslaw18.SlashQueue'. -/
def slashQueueUptoCard : Claim7 := { stood := { row := slashQueueUptoRow, standIns := [], harness := (true, "e6eac408beaa113e6077837c0261770b31ee2f18c5d40a2c6ca38861acf98bd6"), looks := false }, kinds := [], alts := [], laidByText := true, laidKinds := [.data, .data], laidTests := true, laidLooks := .later }
def SlashQueueUptoCardSaid : Prop := Claim7.holds Tryd.pinned (.plain (OpenSpec.upto slashQueueSpec)) slashQueueUptoCard
end Rows
end Go.Proofs.YtpnpmgeokicpjaaDoor
