/-
  PickSyncs.
-/

import Derived.Test.YtlidilnakiphiaaDoorPkH
import Derived.Test.YtlidilnakiphiaaDoorPkE
import Derived.Test.YtlidilnakiphiaaDoorStY
import Derived.Test.YtlidilnakiphiaaDoorVR
namespace Go.Proofs.YtlidilnakiphiaaDoor

open Go.RowKit

set_option linter.unusedVariables false

set_option linter.unusedSimpArgs false

set_option maxRecDepth 20000

attribute [local go_sem ↓] lvState_eq svState_eq bdState_eq lvValidator_eq svValidator_eq ixValidator_eq lvCommittee_eq svCommittee_eq

/-- What the program's Next has to answer. -/
def PNext : Prop := ∀ (x : VState) (w : World), OkState x → Lk w x → Sh w → Calls Tryd.prog 10 #[.agg (cel (sState x))] w (NxA x w)

end Go.Proofs.YtlidilnakiphiaaDoor
