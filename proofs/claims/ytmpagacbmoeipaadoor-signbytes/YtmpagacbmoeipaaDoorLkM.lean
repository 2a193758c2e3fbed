/-
  What the document's RootAt, Leak and Seed answer.
-/

import Derived.Test.YtmpagacbmoeipaaDoorLkJ
import Derived.Test.YtmpagacbmoeipaaDoorMaE
import Derived.Test.YtmpagacbmoeipaaDoorHaG
import Derived.Test.YtmpagacbmoeipaaDoorHaE
import Derived.Deep.Onto

namespace Go.Proofs.YtmpagacbmoeipaaDoor

open Go.RowKit

set_option linter.unusedVariables false

set_option linter.unusedSimpArgs false

set_option maxRecDepth 20000

def ix31 (x i : Value) : Sem Value := Instr.indexAt 31 x i

theorem ix31_eq (x i : Value) : Instr.indexAt 31 x i = ix31 x i := rfl

attribute [local go_sem ↓] lvState_eq svState_eq bdState_eq lvValidator_eq svValidator_eq ixValidator_eq sv24_eq lv24_eq bd27_eq sv8_eq ix31_eq

theorem bl_add' (m c : Nat → Int) (n k : Nat) (hm : ∀ j, j < k → m (n + j) = c j) : bl m n ++ bl c k = bl m (n + k) := by
  unfold bl
  rw [List.range_add, List.map_append, List.map_map]
  congr 1
  refine List.map_congr_left fun j hj => ?_
  show Value.int .u8 (c j) = Value.int .u8 (m (n + j))
  rw [hm j (List.mem_range.1 hj)]

end Go.Proofs.YtmpagacbmoeipaaDoor
