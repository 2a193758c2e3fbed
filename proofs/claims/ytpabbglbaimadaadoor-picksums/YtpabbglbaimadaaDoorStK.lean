/-
  The fixed answers that every statement of layer 10 asks first are right.
-/

import Derived.Test.YtpabbglbaimadaaDoorSR
import Derived.Test.YtpabbglbaimadaaDoorStJ
namespace Go.Proofs.YtpabbglbaimadaaDoor

open Go.RowKit

set_option linter.unusedVariables false

set_option linter.unusedSimpArgs false

set_option maxRecDepth 20000

def V3 : VState := { oState with f2 := 3 }

attribute [local go_sem ↓] lvState_eq svState_eq bdState_eq

end Go.Proofs.YtpabbglbaimadaaDoor
