/-
  What the program's functions of layer 14 have to answer, and the statements' own awake.
-/

import Derived.Test.YtlidilnakiphiaaDoorCmC
namespace Go.Proofs.YtlidilnakiphiaaDoor

open Go.RowKit

set_option linter.unusedVariables false

set_option linter.unusedSimpArgs false

set_option maxRecDepth 100000

/-- What the program's functions have to answer. -/
def PCount : Prop := ∀ (x : VState) (e : Int) (w : World), OkState x → Lk w x → 0 ≤ e → e < 18446744073709551616 → Calls Tryd.prog 5 #[.agg (cel (sState x)), .int .u64 e] w fun e' w' => e' = .returned (.int .u64 (cnt (acE x e).length : Nat)) ∧ Below w.heap.size w w'

def POf : Prop := ∀ (x : VState) (sl ix : Int) (w : World), OkState x → Lk w x → Sh w → 0 ≤ sl → sl < 18446744073709551616 → 0 ≤ ix → ix < 18446744073709551616 → Calls Tryd.prog 7 #[.agg (cel (sState x)), .int .u64 sl, .int .u64 ix] w (OfA x sl ix w)

end Go.Proofs.YtlidilnakiphiaaDoor
