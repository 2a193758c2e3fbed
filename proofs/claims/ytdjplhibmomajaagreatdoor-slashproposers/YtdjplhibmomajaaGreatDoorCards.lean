/-
  DERIVED. GIVEN WITH THE SEED: THE CARDS: each row of YtdjplhibmomajaaGreatDoorRows.lean that lists a variable, with what it lists TIED to the program's text (the seventh form; the later family's looks); each row that meets fmt, with fmt's text TOLD by the authors' own Lean function (tested against real Go, not proved from fmt's source: count such statements apart). THE CARD IS WHAT COUNTS. Prove the row's statement (the work); the ties are given (YtdjplhibmomajaaGreatDoorTie.lean); close each card by the builder's one call (the guide's Derived/Test/ToyasCard.lean, 'card_holds'). Laid BY PROGRAM, IN A SANDBOX (cutbox-door.mjs). By AI agents, Wed Nov 11 2026. No macro, syntax, notation, axiom, sorry.
-/
import Derived.Test.YtdjplhibmomajaaGreatDoorRows
import GoSem.ClaimSeven
namespace Go.Proofs.YtdjplhibmomajaaGreatDoor
namespace Rows

/-- THE TIED CARD OF 'pharoslaw18.SlashProposers'. -/
def slashProposersCard : Claim7 := { stood := { row := slashProposersRow, standIns := [], harness := (true, "59fcf09c86cd908591296b1133290c4273425b7b7094b12b65e7de6a7b15f31e"), looks := false }, kinds := [], alts := [], laidByText := true, laidKinds := [.data, .data, .data], laidTests := true, laidLooks := .later }
def SlashProposersCardSaid : Prop := Claim7.holds Tryz.pinned (.plain (OpenSpec.ofChange slashProposersSpec)) slashProposersCard

/-- THE SECOND FORM's CARD OF 'pharoslaw18.SlashProposers'. -/
def slashProposersUptoCard : Claim7 := { stood := { row := slashProposersUptoRow, standIns := [], harness := (true, "59fcf09c86cd908591296b1133290c4273425b7b7094b12b65e7de6a7b15f31e"), looks := false }, kinds := [], alts := [], laidByText := true, laidKinds := [.data, .data, .data], laidTests := true, laidLooks := .later }
def SlashProposersUptoCardSaid : Prop := Claim7.holds Tryz.pinned (.plain (OpenSpec.upto slashProposersSpec)) slashProposersUptoCard
end Rows
end Go.Proofs.YtdjplhibmomajaaGreatDoor
