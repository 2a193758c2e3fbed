/-
  Committees as plain numbers: how many, where they are cut, who stands in them.
-/

import Derived.Test.YtmbgidfngefniaaLkA
import Derived.Test.YtmbgidfngefniaaLkM
import Derived.Test.YtmbgidfngefniaaVfP
namespace Go.Proofs.Ytmbgidfngefniaa

open Go.RowKit

set_option linter.unusedVariables false

set_option linter.unusedSimpArgs false

/-- How many committees a slot has. -/
def cnt (n : Nat) : Nat := if n / 8 < 1 then 1 else if 2 < n / 8 then 2 else n / 8

/-- Where a piece begins. -/
def cut (n k : Nat) : Nat := n * k / (4 * cnt n)

end Go.Proofs.Ytmbgidfngefniaa
