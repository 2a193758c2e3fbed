/-
  The statements' own few: a state with some validators; and their awake, by what the program's functions answer.
-/

import Derived.Test.YtmbgidfngefniaaCmA
import Derived.Test.YtmbgidfngefniaaLkM
import Derived.Test.YtmbgidfngefniaaVfP
import Derived.Test.YtmbgidfngefniaaLkA
import Derived.Test.YtmbgidfngefniaaLkJ
import Derived.Test.YtmbgidfngefniaaStL
import Derived.ArgAppend

namespace Go.Proofs.Ytmbgidfngefniaa

open Go.RowKit

set_option linter.unusedVariables false

set_option linter.unusedSimpArgs false

set_option maxRecDepth 100000

/-- The lists of such a state. -/
structure FS where
  a11 : Option Addr
  n11 : Nat
  c11 : Nat
  a12 : Option Addr
  n12 : Nat
  c12 : Nat
  a15 : Option Addr
  n15 : Nat
  c15 : Nat
  a16 : Option Addr
  n16 : Nat
  c16 : Nat
  a21 : Option Addr
  n21 : Nat
  c21 : Nat

attribute [local go_sem ↓] lvState_eq svState_eq bdState_eq bvV_eq bsV_eq

end Go.Proofs.Ytmbgidfngefniaa
