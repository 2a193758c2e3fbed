/-
  Keys copied by append; PickSums.
-/

import Derived.Test.YtlidilnakiphiaaDoorPkE
import Derived.Test.YtlidilnakiphiaaDoorPkH
namespace Go.Proofs.YtlidilnakiphiaaDoor

open Go.RowKit

set_option linter.unusedVariables false

set_option linter.unusedSimpArgs false

set_option maxRecDepth 20000

/-- What the program's Sum has to answer. -/
def PSum : Prop := ∀ (a : Option Addr) (n cap : Nat) (f : Nat → Int) (w : World), Kys w a n cap f → (∀ j, j < 48 * n → 0 ≤ f j ∧ f j < 256) → 48 * n ≤ 140737488351232 → Sh w → Calls Tryd.prog 24 #[.slice a n cap] w fun e' w' => e' = .returned (.agg (vs .u8 48 (smV f n))) ∧ Below w.heap.size w w'

attribute [local go_sem ↓] ixKy_eq lvKy_eq svKy_eq

end Go.Proofs.YtlidilnakiphiaaDoor
