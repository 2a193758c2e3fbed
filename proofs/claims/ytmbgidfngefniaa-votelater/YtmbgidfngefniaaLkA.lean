/-
  Validators looked at: who is active, sums; lists of numbers that grow.
-/

import Derived.Test.YtmbgidfngefniaaStD
import Derived.Laws.AppendOwnNone

namespace Go.Proofs.Ytmbgidfngefniaa

open Go.RowKit

set_option linter.unusedVariables false

set_option linter.unusedSimpArgs false

set_option maxRecDepth 20000

theorem ret_int {k : IntKind} {a b : Int} (h : a = b) : Ending.returned (.int k a) = .returned (.int k b) := by rw [h]

end Go.Proofs.Ytmbgidfngefniaa
