/-
  DERIVED. GIVEN WITH THE SEED: THE CARDS: each row of YtaodonmbanpieabDoorRows.lean that lists a variable, with what it lists TIED to the program's text (the seventh form; the later family's looks); each row that meets fmt, with fmt's text TOLD by the authors' own Lean function (tested against real Go, not proved from fmt's source: count such statements apart). THE CARD IS WHAT COUNTS. Prove the row's statement (the work); the ties are given (YtaodonmbanpieabDoorTie.lean); close each card by the builder's one call (the guide's Derived/Test/ToyasCard.lean, 'card_holds'). Laid BY PROGRAM, IN A SANDBOX (cutbox-door.mjs). By AI agents, Wed Nov 11 2026. No macro, syntax, notation, axiom, sorry.
-/
import Derived.Test.YtaodonmbanpieabDoorRows
import GoSem.ClaimSeven
namespace Go.Proofs.YtaodonmbanpieabDoor
namespace Rows

/-- THE TIED CARD OF 'pharoslaw07.SmallSignedHeader'. -/
def smallSignedHeaderCard : Claim7 := { stood := { row := smallSignedHeaderRow, standIns := [], harness := (true, "1aeed27e8aa68d26fd35947d4e390a837bc1c1a16218191a318fd7fa0b185dd4"), looks := false }, kinds := [], alts := [], laidByText := true, laidKinds := [.data, .data, .data], laidTests := true, laidLooks := .later }
def SmallSignedHeaderCardSaid : Prop := Claim7.holds Tryd.pinned (.plain (OpenSpec.ofChange smallSignedHeaderSpec)) smallSignedHeaderCard

/-- THE TIED CARD OF 'pharoslaw07.SmallDepositData'. -/
def smallDepositDataCard : Claim7 := { stood := { row := smallDepositDataRow, standIns := [], harness := (true, "1aeed27e8aa68d26fd35947d4e390a837bc1c1a16218191a318fd7fa0b185dd4"), looks := false }, kinds := [], alts := [], laidByText := true, laidKinds := [.data, .data, .data], laidTests := true, laidLooks := .later }
def SmallDepositDataCardSaid : Prop := Claim7.holds Tryd.pinned (.plain (OpenSpec.ofChange smallDepositDataSpec)) smallDepositDataCard

/-- THE TIED CARD OF 'pharoslaw07.SmallExit'. -/
def smallExitCard : Claim7 := { stood := { row := smallExitRow, standIns := [], harness := (true, "1aeed27e8aa68d26fd35947d4e390a837bc1c1a16218191a318fd7fa0b185dd4"), looks := false }, kinds := [], alts := [], laidByText := true, laidKinds := [.data, .data, .data], laidTests := true, laidLooks := .later }
def SmallExitCardSaid : Prop := Claim7.holds Tryd.pinned (.plain (OpenSpec.ofChange smallExitSpec)) smallExitCard

/-- THE TIED CARD OF 'pharoslaw07.SmallSignedExit'. -/
def smallSignedExitCard : Claim7 := { stood := { row := smallSignedExitRow, standIns := [], harness := (true, "1aeed27e8aa68d26fd35947d4e390a837bc1c1a16218191a318fd7fa0b185dd4"), looks := false }, kinds := [], alts := [], laidByText := true, laidKinds := [.data, .data, .data], laidTests := true, laidLooks := .later }
def SmallSignedExitCardSaid : Prop := Claim7.holds Tryd.pinned (.plain (OpenSpec.ofChange smallSignedExitSpec)) smallSignedExitCard

/-- THE TIED CARD OF 'pharoslaw07.SmallSyncAggregate'. -/
def smallSyncAggregateCard : Claim7 := { stood := { row := smallSyncAggregateRow, standIns := [], harness := (true, "1aeed27e8aa68d26fd35947d4e390a837bc1c1a16218191a318fd7fa0b185dd4"), looks := false }, kinds := [], alts := [], laidByText := true, laidKinds := [.data, .data, .data], laidTests := true, laidLooks := .later }
def SmallSyncAggregateCardSaid : Prop := Claim7.holds Tryd.pinned (.plain (OpenSpec.ofChange smallSyncAggregateSpec)) smallSyncAggregateCard

/-- THE TIED CARD OF 'pharoslaw07.SmallCommittee'. -/
def smallCommitteeCard : Claim7 := { stood := { row := smallCommitteeRow, standIns := [], harness := (true, "1aeed27e8aa68d26fd35947d4e390a837bc1c1a16218191a318fd7fa0b185dd4"), looks := false }, kinds := [], alts := [], laidByText := true, laidKinds := [.data, .data, .data], laidTests := true, laidLooks := .later }
def SmallCommitteeCardSaid : Prop := Claim7.holds Tryd.pinned (.plain (OpenSpec.ofChange smallCommitteeSpec)) smallCommitteeCard

/-- THE SECOND FORM's CARD OF 'pharoslaw07.SmallSignedHeader'. -/
def smallSignedHeaderUptoCard : Claim7 := { stood := { row := smallSignedHeaderUptoRow, standIns := [], harness := (true, "1aeed27e8aa68d26fd35947d4e390a837bc1c1a16218191a318fd7fa0b185dd4"), looks := false }, kinds := [], alts := [], laidByText := true, laidKinds := [.data, .data, .data], laidTests := true, laidLooks := .later }
def SmallSignedHeaderUptoCardSaid : Prop := Claim7.holds Tryd.pinned (.plain (OpenSpec.upto smallSignedHeaderSpec)) smallSignedHeaderUptoCard

/-- THE SECOND FORM's CARD OF 'pharoslaw07.SmallDepositData'. -/
def smallDepositDataUptoCard : Claim7 := { stood := { row := smallDepositDataUptoRow, standIns := [], harness := (true, "1aeed27e8aa68d26fd35947d4e390a837bc1c1a16218191a318fd7fa0b185dd4"), looks := false }, kinds := [], alts := [], laidByText := true, laidKinds := [.data, .data, .data], laidTests := true, laidLooks := .later }
def SmallDepositDataUptoCardSaid : Prop := Claim7.holds Tryd.pinned (.plain (OpenSpec.upto smallDepositDataSpec)) smallDepositDataUptoCard

/-- THE SECOND FORM's CARD OF 'pharoslaw07.SmallExit'. -/
def smallExitUptoCard : Claim7 := { stood := { row := smallExitUptoRow, standIns := [], harness := (true, "1aeed27e8aa68d26fd35947d4e390a837bc1c1a16218191a318fd7fa0b185dd4"), looks := false }, kinds := [], alts := [], laidByText := true, laidKinds := [.data, .data, .data], laidTests := true, laidLooks := .later }
def SmallExitUptoCardSaid : Prop := Claim7.holds Tryd.pinned (.plain (OpenSpec.upto smallExitSpec)) smallExitUptoCard

/-- THE SECOND FORM's CARD OF 'pharoslaw07.SmallSignedExit'. -/
def smallSignedExitUptoCard : Claim7 := { stood := { row := smallSignedExitUptoRow, standIns := [], harness := (true, "1aeed27e8aa68d26fd35947d4e390a837bc1c1a16218191a318fd7fa0b185dd4"), looks := false }, kinds := [], alts := [], laidByText := true, laidKinds := [.data, .data, .data], laidTests := true, laidLooks := .later }
def SmallSignedExitUptoCardSaid : Prop := Claim7.holds Tryd.pinned (.plain (OpenSpec.upto smallSignedExitSpec)) smallSignedExitUptoCard

/-- THE SECOND FORM's CARD OF 'pharoslaw07.SmallSyncAggregate'. -/
def smallSyncAggregateUptoCard : Claim7 := { stood := { row := smallSyncAggregateUptoRow, standIns := [], harness := (true, "1aeed27e8aa68d26fd35947d4e390a837bc1c1a16218191a318fd7fa0b185dd4"), looks := false }, kinds := [], alts := [], laidByText := true, laidKinds := [.data, .data, .data], laidTests := true, laidLooks := .later }
def SmallSyncAggregateUptoCardSaid : Prop := Claim7.holds Tryd.pinned (.plain (OpenSpec.upto smallSyncAggregateSpec)) smallSyncAggregateUptoCard

/-- THE SECOND FORM's CARD OF 'pharoslaw07.SmallCommittee'. -/
def smallCommitteeUptoCard : Claim7 := { stood := { row := smallCommitteeUptoRow, standIns := [], harness := (true, "1aeed27e8aa68d26fd35947d4e390a837bc1c1a16218191a318fd7fa0b185dd4"), looks := false }, kinds := [], alts := [], laidByText := true, laidKinds := [.data, .data, .data], laidTests := true, laidLooks := .later }
def SmallCommitteeUptoCardSaid : Prop := Claim7.holds Tryd.pinned (.plain (OpenSpec.upto smallCommitteeSpec)) smallCommitteeUptoCard
end Rows
end Go.Proofs.YtaodonmbanpieabDoor
