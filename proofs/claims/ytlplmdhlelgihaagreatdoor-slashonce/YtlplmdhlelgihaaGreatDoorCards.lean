/-
  DERIVED. GIVEN WITH THE SEED: THE CARDS: each row of YtlplmdhlelgihaaGreatDoorRows.lean that lists a variable, with what it lists TIED to the program's text (the seventh form; the later family's looks); each row that meets fmt, with fmt's text TOLD by the authors' own Lean function (tested against real Go, not proved from fmt's source: count such statements apart). THE CARD IS WHAT COUNTS. Prove the row's statement (the work); the ties are given (YtlplmdhlelgihaaGreatDoorTie.lean); close each card by the builder's one call (the guide's Derived/Test/ToyasCard.lean, 'card_holds'). Laid BY PROGRAM, IN A SANDBOX (cutbox-door.mjs). By AI agents, Wed Nov 11 2026. No macro, syntax, notation, axiom, sorry.
-/
import Derived.Test.YtlplmdhlelgihaaGreatDoorRows
import GoSem.ClaimSeven
namespace Go.Proofs.YtlplmdhlelgihaaGreatDoor
namespace Rows

/-- THE TIED CARD OF 'pharoslaw18.SlashOnce'. -/
def slashOnceCard : Claim7 := { stood := { row := slashOnceRow, standIns := [], harness := (true, "11d168a95d77d6d81dfed713a992179bf641cf680a84486046ace71d468de4b0"), looks := false }, kinds := [], alts := [], laidByText := true, laidKinds := [.data, .data], laidTests := true, laidLooks := .later }
def SlashOnceCardSaid : Prop := Claim7.holds Tryz.pinned (.plain (OpenSpec.ofChange slashOnceSpec)) slashOnceCard

/-- THE SECOND FORM's CARD OF 'pharoslaw18.SlashOnce'. -/
def slashOnceUptoCard : Claim7 := { stood := { row := slashOnceUptoRow, standIns := [], harness := (true, "11d168a95d77d6d81dfed713a992179bf641cf680a84486046ace71d468de4b0"), looks := false }, kinds := [], alts := [], laidByText := true, laidKinds := [.data, .data], laidTests := true, laidLooks := .later }
def SlashOnceUptoCardSaid : Prop := Claim7.holds Tryz.pinned (.plain (OpenSpec.upto slashOnceSpec)) slashOnceUptoCard
end Rows
end Go.Proofs.YtlplmdhlelgihaaGreatDoor
