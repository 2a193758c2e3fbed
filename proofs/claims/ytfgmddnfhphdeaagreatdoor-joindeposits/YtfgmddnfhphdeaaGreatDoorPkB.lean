/- A part. -/
import Derived.Test.YtfgmddnfhphdeaaGreatDoorQG
import Derived.Test.YtfgmddnfhphdeaaGreatDoorQL
import Derived.BigQuiet
import Derived.Deep.QuietTactic
namespace Go.Proofs.YtfgmddnfhphdeaaGreatDoor
open Go.RowKit
set_option linter.unusedVariables false
set_option linter.unusedSimpArgs false
set_option maxRecDepth 20000
attribute [local go_sem ↓] lvState_eq svState_eq bdState_eq lvValidator_eq svValidator_eq ixValidator_eq sv24_eq lv24_eq sv8_eq
theorem some_ltK {W:World} {y:Nat} {o:Obj} (h:W.heap[y]?=some o):y < W.heap.size:=(Array.getElem?_eq_some_iff.1 h).1
end Go.Proofs.YtfgmddnfhphdeaaGreatDoor
