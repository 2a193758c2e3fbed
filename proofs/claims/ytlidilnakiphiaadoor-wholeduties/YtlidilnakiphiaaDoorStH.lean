/-
  What the reading of a state calls.
-/

import Derived.Test.YtlidilnakiphiaaDoorSR
import Derived.Test.YtlidilnakiphiaaDoorSkA
namespace Go.Proofs.YtlidilnakiphiaaDoor

open Go.RowKit

set_option linter.unusedVariables false

set_option linter.unusedSimpArgs false

set_option maxRecDepth 20000

attribute [local go_sem ↓] ix22_eq sl22_eq

def ixU (x i : Value) : Sem Value := Instr.indexAt 37 x i

theorem ixU_eq (x i : Value) : Instr.indexAt 37 x i = ixU x i := rfl

attribute [local go_sem ↓] ixU_eq

end Go.Proofs.YtlidilnakiphiaaDoor
