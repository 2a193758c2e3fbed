/-
  DERIVED. GIVEN WITH THE SEED: THE CARDS: each row of YtaodonmbanpieaaDoorRows.lean that lists a variable, with what it lists TIED to the program's text (the seventh form; the later family's looks); each row that meets fmt, with fmt's text TOLD by the authors' own Lean function (tested against real Go, not proved from fmt's source: count such statements apart). THE CARD IS WHAT COUNTS. Prove the row's statement (the work); the ties are given (YtaodonmbanpieaaDoorTie.lean); close each card by the builder's one call (the guide's Derived/Test/ToyasCard.lean, 'card_holds'). Laid BY PROGRAM, IN A SANDBOX (cutbox-door.mjs). By AI agents, Wed Nov 11 2026. No macro, syntax, notation, axiom, sorry.
-/
import Derived.Test.YtaodonmbanpieaaDoorRows
import GoSem.ClaimSeven
namespace Go.Proofs.YtaodonmbanpieaaDoor
namespace Rows

/-- THE TIED CARD OF 'pharoslaw07.SmallFork'. -/
def smallForkCard : Claim7 := { stood := { row := smallForkRow, standIns := [], harness := (true, "b2737c05e40018d09b53dc5bd43753f5628fddb56d39d32143d662e308bf9dc4"), looks := false }, kinds := [], alts := [], laidByText := true, laidKinds := [.data, .data, .data], laidTests := true, laidLooks := .later }
def SmallForkCardSaid : Prop := Claim7.holds Tryd.pinned (.plain (OpenSpec.ofChange smallForkSpec)) smallForkCard

/-- THE TIED CARD OF 'pharoslaw07.SmallCheckpoint'. -/
def smallCheckpointCard : Claim7 := { stood := { row := smallCheckpointRow, standIns := [], harness := (true, "b2737c05e40018d09b53dc5bd43753f5628fddb56d39d32143d662e308bf9dc4"), looks := false }, kinds := [], alts := [], laidByText := true, laidKinds := [.data, .data, .data], laidTests := true, laidLooks := .later }
def SmallCheckpointCardSaid : Prop := Claim7.holds Tryd.pinned (.plain (OpenSpec.ofChange smallCheckpointSpec)) smallCheckpointCard

/-- THE TIED CARD OF 'pharoslaw07.SmallValidator'. -/
def smallValidatorCard : Claim7 := { stood := { row := smallValidatorRow, standIns := [], harness := (true, "b2737c05e40018d09b53dc5bd43753f5628fddb56d39d32143d662e308bf9dc4"), looks := false }, kinds := [], alts := [], laidByText := true, laidKinds := [.data, .data, .data], laidTests := true, laidLooks := .later }
def SmallValidatorCardSaid : Prop := Claim7.holds Tryd.pinned (.plain (OpenSpec.ofChange smallValidatorSpec)) smallValidatorCard

/-- THE TIED CARD OF 'pharoslaw07.SmallData'. -/
def smallDataCard : Claim7 := { stood := { row := smallDataRow, standIns := [], harness := (true, "b2737c05e40018d09b53dc5bd43753f5628fddb56d39d32143d662e308bf9dc4"), looks := false }, kinds := [], alts := [], laidByText := true, laidKinds := [.data, .data, .data], laidTests := true, laidLooks := .later }
def SmallDataCardSaid : Prop := Claim7.holds Tryd.pinned (.plain (OpenSpec.ofChange smallDataSpec)) smallDataCard

/-- THE TIED CARD OF 'pharoslaw07.SmallEth1'. -/
def smallEth1Card : Claim7 := { stood := { row := smallEth1Row, standIns := [], harness := (true, "b2737c05e40018d09b53dc5bd43753f5628fddb56d39d32143d662e308bf9dc4"), looks := false }, kinds := [], alts := [], laidByText := true, laidKinds := [.data, .data, .data], laidTests := true, laidLooks := .later }
def SmallEth1CardSaid : Prop := Claim7.holds Tryd.pinned (.plain (OpenSpec.ofChange smallEth1Spec)) smallEth1Card

/-- THE TIED CARD OF 'pharoslaw07.SmallHeader'. -/
def smallHeaderCard : Claim7 := { stood := { row := smallHeaderRow, standIns := [], harness := (true, "b2737c05e40018d09b53dc5bd43753f5628fddb56d39d32143d662e308bf9dc4"), looks := false }, kinds := [], alts := [], laidByText := true, laidKinds := [.data, .data, .data], laidTests := true, laidLooks := .later }
def SmallHeaderCardSaid : Prop := Claim7.holds Tryd.pinned (.plain (OpenSpec.ofChange smallHeaderSpec)) smallHeaderCard

/-- THE SECOND FORM's CARD OF 'pharoslaw07.SmallFork'. -/
def smallForkUptoCard : Claim7 := { stood := { row := smallForkUptoRow, standIns := [], harness := (true, "b2737c05e40018d09b53dc5bd43753f5628fddb56d39d32143d662e308bf9dc4"), looks := false }, kinds := [], alts := [], laidByText := true, laidKinds := [.data, .data, .data], laidTests := true, laidLooks := .later }
def SmallForkUptoCardSaid : Prop := Claim7.holds Tryd.pinned (.plain (OpenSpec.upto smallForkSpec)) smallForkUptoCard

/-- THE SECOND FORM's CARD OF 'pharoslaw07.SmallCheckpoint'. -/
def smallCheckpointUptoCard : Claim7 := { stood := { row := smallCheckpointUptoRow, standIns := [], harness := (true, "b2737c05e40018d09b53dc5bd43753f5628fddb56d39d32143d662e308bf9dc4"), looks := false }, kinds := [], alts := [], laidByText := true, laidKinds := [.data, .data, .data], laidTests := true, laidLooks := .later }
def SmallCheckpointUptoCardSaid : Prop := Claim7.holds Tryd.pinned (.plain (OpenSpec.upto smallCheckpointSpec)) smallCheckpointUptoCard

/-- THE SECOND FORM's CARD OF 'pharoslaw07.SmallValidator'. -/
def smallValidatorUptoCard : Claim7 := { stood := { row := smallValidatorUptoRow, standIns := [], harness := (true, "b2737c05e40018d09b53dc5bd43753f5628fddb56d39d32143d662e308bf9dc4"), looks := false }, kinds := [], alts := [], laidByText := true, laidKinds := [.data, .data, .data], laidTests := true, laidLooks := .later }
def SmallValidatorUptoCardSaid : Prop := Claim7.holds Tryd.pinned (.plain (OpenSpec.upto smallValidatorSpec)) smallValidatorUptoCard

/-- THE SECOND FORM's CARD OF 'pharoslaw07.SmallData'. -/
def smallDataUptoCard : Claim7 := { stood := { row := smallDataUptoRow, standIns := [], harness := (true, "b2737c05e40018d09b53dc5bd43753f5628fddb56d39d32143d662e308bf9dc4"), looks := false }, kinds := [], alts := [], laidByText := true, laidKinds := [.data, .data, .data], laidTests := true, laidLooks := .later }
def SmallDataUptoCardSaid : Prop := Claim7.holds Tryd.pinned (.plain (OpenSpec.upto smallDataSpec)) smallDataUptoCard

/-- THE SECOND FORM's CARD OF 'pharoslaw07.SmallEth1'. -/
def smallEth1UptoCard : Claim7 := { stood := { row := smallEth1UptoRow, standIns := [], harness := (true, "b2737c05e40018d09b53dc5bd43753f5628fddb56d39d32143d662e308bf9dc4"), looks := false }, kinds := [], alts := [], laidByText := true, laidKinds := [.data, .data, .data], laidTests := true, laidLooks := .later }
def SmallEth1UptoCardSaid : Prop := Claim7.holds Tryd.pinned (.plain (OpenSpec.upto smallEth1Spec)) smallEth1UptoCard

/-- THE SECOND FORM's CARD OF 'pharoslaw07.SmallHeader'. -/
def smallHeaderUptoCard : Claim7 := { stood := { row := smallHeaderUptoRow, standIns := [], harness := (true, "b2737c05e40018d09b53dc5bd43753f5628fddb56d39d32143d662e308bf9dc4"), looks := false }, kinds := [], alts := [], laidByText := true, laidKinds := [.data, .data, .data], laidTests := true, laidLooks := .later }
def SmallHeaderUptoCardSaid : Prop := Claim7.holds Tryd.pinned (.plain (OpenSpec.upto smallHeaderSpec)) smallHeaderUptoCard
end Rows
end Go.Proofs.YtaodonmbanpieaaDoor
