/-
  DERIVED. GIVEN WITH THE SEED: THE CARDS: each row of YtficlakgameglaaDoorRows.lean that lists a variable, with what it lists TIED to the program's text (the seventh form; the later family's looks); each row that meets fmt, with fmt's text TOLD by the authors' own Lean function (tested against real Go, not proved from fmt's source: count such statements apart). THE CARD IS WHAT COUNTS. Prove the row's statement (the work); the ties are given (YtficlakgameglaaDoorTie.lean); close each card by the builder's one call (the guide's Derived/Test/ToyasCard.lean, 'card_holds'). Laid BY PROGRAM, IN A SANDBOX (cutbox-door.mjs). By AI agents, Wed Nov 11 2026. No macro, syntax, notation, axiom, sorry.
-/
import Derived.Test.YtficlakgameglaaDoorRows
import GoSem.ClaimSeven
namespace Go.Proofs.YtficlakgameglaaDoor
namespace Rows

/-- THE TIED CARD OF 'pharoslaw21.ChoirShares'. -/
def choirSharesCard : Claim7 := { stood := { row := choirSharesRow, standIns := [], harness := (true, "349be960db7949d93ddc9153a998bec79a33f3019e629552b63806fa9a732170"), looks := false }, kinds := [], alts := [], laidByText := true, laidKinds := [.data, .data], laidTests := true, laidLooks := .later }
def ChoirSharesCardSaid : Prop := Claim7.holds Tryd.pinned (.plain (OpenSpec.ofChange choirSharesSpec)) choirSharesCard

/-- THE TIED CARD OF 'pharoslaw21.ChoirAll'. -/
def choirAllCard : Claim7 := { stood := { row := choirAllRow, standIns := [], harness := (true, "349be960db7949d93ddc9153a998bec79a33f3019e629552b63806fa9a732170"), looks := false }, kinds := [], alts := [], laidByText := true, laidKinds := [.data, .data], laidTests := true, laidLooks := .later }
def ChoirAllCardSaid : Prop := Claim7.holds Tryd.pinned (.plain (OpenSpec.ofChange choirAllSpec)) choirAllCard

/-- THE SECOND FORM's CARD OF 'pharoslaw21.ChoirShares'. -/
def choirSharesUptoCard : Claim7 := { stood := { row := choirSharesUptoRow, standIns := [], harness := (true, "349be960db7949d93ddc9153a998bec79a33f3019e629552b63806fa9a732170"), looks := false }, kinds := [], alts := [], laidByText := true, laidKinds := [.data, .data], laidTests := true, laidLooks := .later }
def ChoirSharesUptoCardSaid : Prop := Claim7.holds Tryd.pinned (.plain (OpenSpec.upto choirSharesSpec)) choirSharesUptoCard

/-- THE SECOND FORM's CARD OF 'pharoslaw21.ChoirAll'. -/
def choirAllUptoCard : Claim7 := { stood := { row := choirAllUptoRow, standIns := [], harness := (true, "349be960db7949d93ddc9153a998bec79a33f3019e629552b63806fa9a732170"), looks := false }, kinds := [], alts := [], laidByText := true, laidKinds := [.data, .data], laidTests := true, laidLooks := .later }
def ChoirAllUptoCardSaid : Prop := Claim7.holds Tryd.pinned (.plain (OpenSpec.upto choirAllSpec)) choirAllUptoCard
end Rows
end Go.Proofs.YtficlakgameglaaDoor
