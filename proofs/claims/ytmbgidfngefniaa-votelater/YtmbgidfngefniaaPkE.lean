/-
  What the program's functions of layer 15 have to answer, and the statements' own alone and awake.
-/

import Derived.Test.YtmbgidfngefniaaCmA
import Derived.Test.YtmbgidfngefniaaLkM
import Derived.Test.YtmbgidfngefniaaVfP
import Derived.Test.YtmbgidfngefniaaLkA
import Derived.Test.YtmbgidfngefniaaCmC
namespace Go.Proofs.Ytmbgidfngefniaa

open Go.RowKit

set_option linter.unusedVariables false

set_option linter.unusedSimpArgs false

set_option maxRecDepth 100000

theorem setRow_other {w : World} {b k : Nat} {C : Array Value} (h : k ≠ b) : (w.setRow b C).heap[k]? = w.heap[k]? := by
  simp only [World.setRow, Array.getElem?_modify]
  rw [if_neg (fun e => h e.symm)]

attribute [local go_sem ↓] lvState_eq svState_eq bdState_eq lvValidator_eq svValidator_eq ixValidator_eq bvV_eq bsV_eq

end Go.Proofs.Ytmbgidfngefniaa
