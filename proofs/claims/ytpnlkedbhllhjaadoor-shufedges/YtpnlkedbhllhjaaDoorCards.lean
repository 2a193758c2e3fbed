/-
  DERIVED. GIVEN WITH THE SEED: THE CARDS: each row of YtpnlkedbhllhjaaDoorRows.lean that lists a variable, with what it lists TIED to the program's text (the seventh form; the later family's looks); each row that meets fmt, with fmt's text TOLD by the authors' own Lean function (tested against real Go, not proved from fmt's source: count such statements apart). THE CARD IS WHAT COUNTS. Prove the row's statement (the work); the ties are given (YtpnlkedbhllhjaaDoorTie.lean); close each card by the builder's one call (the guide's Derived/Test/ToyasCard.lean, 'card_holds'). Laid BY PROGRAM, IN A SANDBOX (cutbox-door.mjs). By AI agents, Wed Nov 11 2026. No macro, syntax, notation, axiom, sorry.
-/
import Derived.Test.YtpnlkedbhllhjaaDoorRows
import GoSem.ClaimSeven
namespace Go.Proofs.YtpnlkedbhllhjaaDoor
namespace Rows

/-- THE TIED CARD OF 'pharoslaw12.ShufPlaces'. -/
def shufPlacesCard : Claim7 := { stood := { row := shufPlacesRow, standIns := [], harness := (true, "73cc4c8dc44633d2124497871e2e533ebbeda689cf9ff35e11075774c10826f9"), looks := false }, kinds := [], alts := [], laidByText := true, laidKinds := [.data, .data, .data], laidTests := true, laidLooks := .later }
def ShufPlacesCardSaid : Prop := Claim7.holds Tryd.pinned (.plain (OpenSpec.ofChange shufPlacesSpec)) shufPlacesCard

/-- THE TIED CARD OF 'pharoslaw12.ShufLists'. -/
def shufListsCard : Claim7 := { stood := { row := shufListsRow, standIns := [], harness := (true, "73cc4c8dc44633d2124497871e2e533ebbeda689cf9ff35e11075774c10826f9"), looks := false }, kinds := [], alts := [], laidByText := true, laidKinds := [.data, .data, .data], laidTests := true, laidLooks := .later }
def ShufListsCardSaid : Prop := Claim7.holds Tryd.pinned (.plain (OpenSpec.ofChange shufListsSpec)) shufListsCard

/-- THE TIED CARD OF 'pharoslaw12.ShufAll'. -/
def shufAllCard : Claim7 := { stood := { row := shufAllRow, standIns := [], harness := (true, "73cc4c8dc44633d2124497871e2e533ebbeda689cf9ff35e11075774c10826f9"), looks := false }, kinds := [], alts := [], laidByText := true, laidKinds := [.data, .data], laidTests := true, laidLooks := .later }
def ShufAllCardSaid : Prop := Claim7.holds Tryd.pinned (.plain (OpenSpec.ofChange shufAllSpec)) shufAllCard

/-- THE TIED CARD OF 'pharoslaw12.ShufEdges'. -/
def shufEdgesCard : Claim7 := { stood := { row := shufEdgesRow, standIns := [], harness := (true, "73cc4c8dc44633d2124497871e2e533ebbeda689cf9ff35e11075774c10826f9"), looks := false }, kinds := [], alts := [], laidByText := true, laidKinds := [.data, .data, .data], laidTests := true, laidLooks := .later }
def ShufEdgesCardSaid : Prop := Claim7.holds Tryd.pinned (.plain (OpenSpec.ofChange shufEdgesSpec)) shufEdgesCard

/-- THE TIED CARD OF 'pharoslaw12.ShufAlike'. -/
def shufAlikeCard : Claim7 := { stood := { row := shufAlikeRow, standIns := [], harness := (true, "73cc4c8dc44633d2124497871e2e533ebbeda689cf9ff35e11075774c10826f9"), looks := false }, kinds := [], alts := [], laidByText := true, laidKinds := [.data, .data], laidTests := true, laidLooks := .later }
def ShufAlikeCardSaid : Prop := Claim7.holds Tryd.pinned (.plain (OpenSpec.ofChange shufAlikeSpec)) shufAlikeCard

/-- THE SECOND FORM's CARD OF 'pharoslaw12.ShufPlaces'. -/
def shufPlacesUptoCard : Claim7 := { stood := { row := shufPlacesUptoRow, standIns := [], harness := (true, "73cc4c8dc44633d2124497871e2e533ebbeda689cf9ff35e11075774c10826f9"), looks := false }, kinds := [], alts := [], laidByText := true, laidKinds := [.data, .data, .data], laidTests := true, laidLooks := .later }
def ShufPlacesUptoCardSaid : Prop := Claim7.holds Tryd.pinned (.plain (OpenSpec.upto shufPlacesSpec)) shufPlacesUptoCard

/-- THE SECOND FORM's CARD OF 'pharoslaw12.ShufLists'. -/
def shufListsUptoCard : Claim7 := { stood := { row := shufListsUptoRow, standIns := [], harness := (true, "73cc4c8dc44633d2124497871e2e533ebbeda689cf9ff35e11075774c10826f9"), looks := false }, kinds := [], alts := [], laidByText := true, laidKinds := [.data, .data, .data], laidTests := true, laidLooks := .later }
def ShufListsUptoCardSaid : Prop := Claim7.holds Tryd.pinned (.plain (OpenSpec.upto shufListsSpec)) shufListsUptoCard

/-- THE SECOND FORM's CARD OF 'pharoslaw12.ShufAll'. -/
def shufAllUptoCard : Claim7 := { stood := { row := shufAllUptoRow, standIns := [], harness := (true, "73cc4c8dc44633d2124497871e2e533ebbeda689cf9ff35e11075774c10826f9"), looks := false }, kinds := [], alts := [], laidByText := true, laidKinds := [.data, .data], laidTests := true, laidLooks := .later }
def ShufAllUptoCardSaid : Prop := Claim7.holds Tryd.pinned (.plain (OpenSpec.upto shufAllSpec)) shufAllUptoCard

/-- THE SECOND FORM's CARD OF 'pharoslaw12.ShufEdges'. -/
def shufEdgesUptoCard : Claim7 := { stood := { row := shufEdgesUptoRow, standIns := [], harness := (true, "73cc4c8dc44633d2124497871e2e533ebbeda689cf9ff35e11075774c10826f9"), looks := false }, kinds := [], alts := [], laidByText := true, laidKinds := [.data, .data, .data], laidTests := true, laidLooks := .later }
def ShufEdgesUptoCardSaid : Prop := Claim7.holds Tryd.pinned (.plain (OpenSpec.upto shufEdgesSpec)) shufEdgesUptoCard

/-- THE SECOND FORM's CARD OF 'pharoslaw12.ShufAlike'. -/
def shufAlikeUptoCard : Claim7 := { stood := { row := shufAlikeUptoRow, standIns := [], harness := (true, "73cc4c8dc44633d2124497871e2e533ebbeda689cf9ff35e11075774c10826f9"), looks := false }, kinds := [], alts := [], laidByText := true, laidKinds := [.data, .data], laidTests := true, laidLooks := .later }
def ShufAlikeUptoCardSaid : Prop := Claim7.holds Tryd.pinned (.plain (OpenSpec.upto shufAlikeSpec)) shufAlikeUptoCard
end Rows
end Go.Proofs.YtpnlkedbhllhjaaDoor
