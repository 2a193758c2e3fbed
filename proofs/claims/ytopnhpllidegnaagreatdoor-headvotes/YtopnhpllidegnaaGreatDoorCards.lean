/-
  DERIVED. GIVEN WITH THE SEED: THE CARDS: each row of YtopnhpllidegnaaGreatDoorRows.lean that lists a variable, with what it lists TIED to the program's text (the seventh form; the later family's looks); each row that meets fmt, with fmt's text TOLD by the authors' own Lean function (tested against real Go, not proved from fmt's source: count such statements apart). THE CARD IS WHAT COUNTS. Prove the row's statement (the work); the ties are given (YtopnhpllidegnaaGreatDoorTie.lean); close each card by the builder's one call (the guide's Derived/Test/ToyasCard.lean, 'card_holds'). Laid BY PROGRAM, IN A SANDBOX (cutbox-door.mjs). By AI agents, Wed Nov 11 2026. No macro, syntax, notation, axiom, sorry.
-/
import Derived.Test.YtopnhpllidegnaaGreatDoorRows
import GoSem.ClaimSeven
namespace Go.Proofs.YtopnhpllidegnaaGreatDoor
namespace Rows

/-- THE TIED CARD OF 'pharoslaw17.HeadReveals'. -/
def headRevealsCard : Claim7 := { stood := { row := headRevealsRow, standIns := [], harness := (true, "07ee1864ae0d037b8feb3ab8504f97680a99953ff7021547479c1f6ac215d36c"), looks := false }, kinds := [], alts := [], laidByText := true, laidKinds := [.data, .data, .data], laidTests := true, laidLooks := .later }
def HeadRevealsCardSaid : Prop := Claim7.holds Tryz.pinned (.plain (OpenSpec.ofChange headRevealsSpec)) headRevealsCard

/-- THE TIED CARD OF 'pharoslaw17.HeadVotes'. -/
def headVotesCard : Claim7 := { stood := { row := headVotesRow, standIns := [], harness := (true, "07ee1864ae0d037b8feb3ab8504f97680a99953ff7021547479c1f6ac215d36c"), looks := false }, kinds := [], alts := [], laidByText := true, laidKinds := [.data, .data], laidTests := true, laidLooks := .later }
def HeadVotesCardSaid : Prop := Claim7.holds Tryz.pinned (.plain (OpenSpec.ofChange headVotesSpec)) headVotesCard

/-- THE TIED CARD OF 'pharoslaw17.HeadTwice'. -/
def headTwiceCard : Claim7 := { stood := { row := headTwiceRow, standIns := [], harness := (true, "07ee1864ae0d037b8feb3ab8504f97680a99953ff7021547479c1f6ac215d36c"), looks := false }, kinds := [], alts := [], laidByText := true, laidKinds := [.data, .data], laidTests := true, laidLooks := .later }
def HeadTwiceCardSaid : Prop := Claim7.holds Tryz.pinned (.plain (OpenSpec.ofChange headTwiceSpec)) headTwiceCard

/-- THE SECOND FORM's CARD OF 'pharoslaw17.HeadReveals'. -/
def headRevealsUptoCard : Claim7 := { stood := { row := headRevealsUptoRow, standIns := [], harness := (true, "07ee1864ae0d037b8feb3ab8504f97680a99953ff7021547479c1f6ac215d36c"), looks := false }, kinds := [], alts := [], laidByText := true, laidKinds := [.data, .data, .data], laidTests := true, laidLooks := .later }
def HeadRevealsUptoCardSaid : Prop := Claim7.holds Tryz.pinned (.plain (OpenSpec.upto headRevealsSpec)) headRevealsUptoCard

/-- THE SECOND FORM's CARD OF 'pharoslaw17.HeadVotes'. -/
def headVotesUptoCard : Claim7 := { stood := { row := headVotesUptoRow, standIns := [], harness := (true, "07ee1864ae0d037b8feb3ab8504f97680a99953ff7021547479c1f6ac215d36c"), looks := false }, kinds := [], alts := [], laidByText := true, laidKinds := [.data, .data], laidTests := true, laidLooks := .later }
def HeadVotesUptoCardSaid : Prop := Claim7.holds Tryz.pinned (.plain (OpenSpec.upto headVotesSpec)) headVotesUptoCard

/-- THE SECOND FORM's CARD OF 'pharoslaw17.HeadTwice'. -/
def headTwiceUptoCard : Claim7 := { stood := { row := headTwiceUptoRow, standIns := [], harness := (true, "07ee1864ae0d037b8feb3ab8504f97680a99953ff7021547479c1f6ac215d36c"), looks := false }, kinds := [], alts := [], laidByText := true, laidKinds := [.data, .data], laidTests := true, laidLooks := .later }
def HeadTwiceUptoCardSaid : Prop := Claim7.holds Tryz.pinned (.plain (OpenSpec.upto headTwiceSpec)) headTwiceUptoCard
end Rows
end Go.Proofs.YtopnhpllidegnaaGreatDoor
