/-
  What the reference's Sync answers.
-/

import Derived.Test.YtlidilnakiphiaaDoorPkB
namespace Go.Proofs.YtlidilnakiphiaaDoor

open Go.RowKit

set_option linter.unusedVariables false

set_option linter.unusedSimpArgs false

set_option maxRecDepth 20000

attribute [local go_sem ↓] lvState_eq svState_eq bdState_eq lvValidator_eq svValidator_eq ixValidator_eq sv24_eq lv24_eq sv8_eq

/-- The next sync committee's members. -/
def syL (x : VState) : List Int := dwL x.f11.z (acE x (x.f2 / 4 + 1)) (seedV x (x.f2 / 4 + 1) 7) 8

def syE (x : VState) : Int := dwE x.f11.z (acE x (x.f2 / 4 + 1)) (seedV x (x.f2 / 4 + 1) 7) 8

end Go.Proofs.YtlidilnakiphiaaDoor
