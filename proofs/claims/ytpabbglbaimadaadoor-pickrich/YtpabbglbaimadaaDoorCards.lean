/-
  DERIVED. GIVEN WITH THE SEED: THE CARDS: each row of YtpabbglbaimadaaDoorRows.lean that lists a variable, with what it lists TIED to the program's text (the seventh form; the later family's looks); each row that meets fmt, with fmt's text TOLD by the authors' own Lean function (tested against real Go, not proved from fmt's source: count such statements apart). THE CARD IS WHAT COUNTS. Prove the row's statement (the work); the ties are given (YtpabbglbaimadaaDoorTie.lean); close each card by the builder's one call (the guide's Derived/Test/ToyasCard.lean, 'card_holds'). Laid BY PROGRAM, IN A SANDBOX (cutbox-door.mjs). By AI agents, Wed Nov 11 2026. No macro, syntax, notation, axiom, sorry.
-/
import Derived.Test.YtpabbglbaimadaaDoorRows
import GoSem.ClaimSeven
namespace Go.Proofs.YtpabbglbaimadaaDoor
namespace Rows

/-- THE TIED CARD OF 'pharoslaw15.PickProposers'. -/
def pickProposersCard : Claim7 := { stood := { row := pickProposersRow, standIns := [], harness := (true, "0046c305a2721f3a5797669639763dedd5ebc1be64467cc980e70f2d9aed13cd"), looks := false }, kinds := [], alts := [], laidByText := true, laidKinds := [.data, .data, .data], laidTests := true, laidLooks := .later }
def PickProposersCardSaid : Prop := Claim7.holds Tryd.pinned (.plain (OpenSpec.ofChange pickProposersSpec)) pickProposersCard

/-- THE TIED CARD OF 'pharoslaw15.PickSyncs'. -/
def pickSyncsCard : Claim7 := { stood := { row := pickSyncsRow, standIns := [], harness := (true, "0046c305a2721f3a5797669639763dedd5ebc1be64467cc980e70f2d9aed13cd"), looks := false }, kinds := [], alts := [], laidByText := true, laidKinds := [.data, .data, .data], laidTests := true, laidLooks := .later }
def PickSyncsCardSaid : Prop := Claim7.holds Tryd.pinned (.plain (OpenSpec.ofChange pickSyncsSpec)) pickSyncsCard

/-- THE TIED CARD OF 'pharoslaw15.PickSums'. -/
def pickSumsCard : Claim7 := { stood := { row := pickSumsRow, standIns := [], harness := (true, "0046c305a2721f3a5797669639763dedd5ebc1be64467cc980e70f2d9aed13cd"), looks := false }, kinds := [], alts := [], laidByText := true, laidKinds := [.data, .data, .data], laidTests := true, laidLooks := .later }
def PickSumsCardSaid : Prop := Claim7.holds Tryd.pinned (.plain (OpenSpec.ofChange pickSumsSpec)) pickSumsCard

/-- THE TIED CARD OF 'pharoslaw15.PickRich'. -/
def pickRichCard : Claim7 := { stood := { row := pickRichRow, standIns := [], harness := (true, "0046c305a2721f3a5797669639763dedd5ebc1be64467cc980e70f2d9aed13cd"), looks := false }, kinds := [], alts := [], laidByText := true, laidKinds := [.data, .data], laidTests := true, laidLooks := .later }
def PickRichCardSaid : Prop := Claim7.holds Tryd.pinned (.plain (OpenSpec.ofChange pickRichSpec)) pickRichCard

/-- THE SECOND FORM's CARD OF 'pharoslaw15.PickProposers'. -/
def pickProposersUptoCard : Claim7 := { stood := { row := pickProposersUptoRow, standIns := [], harness := (true, "0046c305a2721f3a5797669639763dedd5ebc1be64467cc980e70f2d9aed13cd"), looks := false }, kinds := [], alts := [], laidByText := true, laidKinds := [.data, .data, .data], laidTests := true, laidLooks := .later }
def PickProposersUptoCardSaid : Prop := Claim7.holds Tryd.pinned (.plain (OpenSpec.upto pickProposersSpec)) pickProposersUptoCard

/-- THE SECOND FORM's CARD OF 'pharoslaw15.PickSyncs'. -/
def pickSyncsUptoCard : Claim7 := { stood := { row := pickSyncsUptoRow, standIns := [], harness := (true, "0046c305a2721f3a5797669639763dedd5ebc1be64467cc980e70f2d9aed13cd"), looks := false }, kinds := [], alts := [], laidByText := true, laidKinds := [.data, .data, .data], laidTests := true, laidLooks := .later }
def PickSyncsUptoCardSaid : Prop := Claim7.holds Tryd.pinned (.plain (OpenSpec.upto pickSyncsSpec)) pickSyncsUptoCard

/-- THE SECOND FORM's CARD OF 'pharoslaw15.PickSums'. -/
def pickSumsUptoCard : Claim7 := { stood := { row := pickSumsUptoRow, standIns := [], harness := (true, "0046c305a2721f3a5797669639763dedd5ebc1be64467cc980e70f2d9aed13cd"), looks := false }, kinds := [], alts := [], laidByText := true, laidKinds := [.data, .data, .data], laidTests := true, laidLooks := .later }
def PickSumsUptoCardSaid : Prop := Claim7.holds Tryd.pinned (.plain (OpenSpec.upto pickSumsSpec)) pickSumsUptoCard

/-- THE SECOND FORM's CARD OF 'pharoslaw15.PickRich'. -/
def pickRichUptoCard : Claim7 := { stood := { row := pickRichUptoRow, standIns := [], harness := (true, "0046c305a2721f3a5797669639763dedd5ebc1be64467cc980e70f2d9aed13cd"), looks := false }, kinds := [], alts := [], laidByText := true, laidKinds := [.data, .data], laidTests := true, laidLooks := .later }
def PickRichUptoCardSaid : Prop := Claim7.holds Tryd.pinned (.plain (OpenSpec.upto pickRichSpec)) pickRichUptoCard
end Rows
end Go.Proofs.YtpabbglbaimadaaDoor
