/-
  What LookRoots answers, by what the program's functions answer.
-/

import Derived.Test.YtlidilnakiphiaaDoorLkM
import Derived.Test.YtlidilnakiphiaaDoorMQ
import Derived.Test.YtlidilnakiphiaaDoorHaE
import Derived.Test.YtlidilnakiphiaaDoorHaB
import Derived.Test.YtlidilnakiphiaaDoorHaD
namespace Go.Proofs.YtlidilnakiphiaaDoor

open Go.RowKit

set_option linter.unusedVariables false

set_option linter.unusedSimpArgs false

set_option maxRecDepth 20000

def PSeed : Prop := ∀ (x : VState) (e k : Int) (w : World), OkState x → 0 ≤ e → e < 18446744073709551616 → -9223372036854775808 ≤ k → k ≤ 9223372036854775807 → Sh w → Calls Tryd.prog 12 #[.agg (cel (sState x)), .int .u64 e, .int .i64 k] w fun e' w' => e' = .returned (.agg (vs .u8 32 (seedV x e k))) ∧ Below w.heap.size w w'

attribute [local go_sem ↓] lvState_eq svState_eq bdState_eq lvValidator_eq svValidator_eq ixValidator_eq sv24_eq lv24_eq bd27_eq sv8_eq

end Go.Proofs.YtlidilnakiphiaaDoor
