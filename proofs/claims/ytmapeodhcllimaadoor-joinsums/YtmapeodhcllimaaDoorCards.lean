/-
  DERIVED. GIVEN WITH THE SEED: THE CARDS: each row of YtmapeodhcllimaaDoorRows.lean that lists a variable, with what it lists TIED to the program's text (the seventh form; the later family's looks); each row that meets fmt, with fmt's text TOLD by the authors' own Lean function (tested against real Go, not proved from fmt's source: count such statements apart). THE CARD IS WHAT COUNTS. Prove the row's statement (the work); the ties are given (YtmapeodhcllimaaDoorTie.lean); close each card by the builder's one call (the guide's Derived/Test/ToyasCard.lean, 'card_holds'). Laid BY PROGRAM, IN A SANDBOX (cutbox-door.mjs). By AI agents, Wed Nov 11 2026. No macro, syntax, notation, axiom, sorry.
-/
import Derived.Test.YtmapeodhcllimaaDoorRows
import GoSem.ClaimSeven
namespace Go.Proofs.YtmapeodhcllimaaDoor
namespace Rows

/-- THE TIED CARD OF 'pharoslaw20.JoinSums'. -/
def joinSumsCard : Claim7 := { stood := { row := joinSumsRow, standIns := [], harness := (true, "6935cb1482bed48e65c1222d733b41ae3661d4cbc0d01898cb62f2393bc3818f"), looks := false }, kinds := [], alts := [], laidByText := true, laidKinds := [.data, .data, .data], laidTests := true, laidLooks := .later }
def JoinSumsCardSaid : Prop := Claim7.holds Tryd.pinned (.plain (OpenSpec.ofChange joinSumsSpec)) joinSumsCard

/-- THE TIED CARD OF 'pharoslaw20.JoinLeaves'. -/
def joinLeavesCard : Claim7 := { stood := { row := joinLeavesRow, standIns := [], harness := (true, "6935cb1482bed48e65c1222d733b41ae3661d4cbc0d01898cb62f2393bc3818f"), looks := false }, kinds := [], alts := [], laidByText := true, laidKinds := [.data, .data, .data], laidTests := true, laidLooks := .later }
def JoinLeavesCardSaid : Prop := Claim7.holds Tryd.pinned (.plain (OpenSpec.ofChange joinLeavesSpec)) joinLeavesCard

/-- THE SECOND FORM's CARD OF 'pharoslaw20.JoinSums'. -/
def joinSumsUptoCard : Claim7 := { stood := { row := joinSumsUptoRow, standIns := [], harness := (true, "6935cb1482bed48e65c1222d733b41ae3661d4cbc0d01898cb62f2393bc3818f"), looks := false }, kinds := [], alts := [], laidByText := true, laidKinds := [.data, .data, .data], laidTests := true, laidLooks := .later }
def JoinSumsUptoCardSaid : Prop := Claim7.holds Tryd.pinned (.plain (OpenSpec.upto joinSumsSpec)) joinSumsUptoCard

/-- THE SECOND FORM's CARD OF 'pharoslaw20.JoinLeaves'. -/
def joinLeavesUptoCard : Claim7 := { stood := { row := joinLeavesUptoRow, standIns := [], harness := (true, "6935cb1482bed48e65c1222d733b41ae3661d4cbc0d01898cb62f2393bc3818f"), looks := false }, kinds := [], alts := [], laidByText := true, laidKinds := [.data, .data, .data], laidTests := true, laidLooks := .later }
def JoinLeavesUptoCardSaid : Prop := Claim7.holds Tryd.pinned (.plain (OpenSpec.upto joinLeavesSpec)) joinLeavesUptoCard
end Rows
end Go.Proofs.YtmapeodhcllimaaDoor
