/-
  Shuffled places: plain numbers. A round takes two places of a pair to each other or leaves both, so it undoes itself.
-/

import Derived.Test.YtmbgidfngefniaaRows
import Derived.WalkKit

namespace Go.Proofs.Ytmbgidfngefniaa

set_option linter.unusedVariables false

/-- The greater one. -/
def mx (a b : Int) : Int := if a < b then b else a

end Go.Proofs.Ytmbgidfngefniaa
