/-
  What changes of a copied state do; who proposes in states that differ where it does not matter.
-/

import Derived.Test.YtlidilnakiphiaaDoorPkE
import Derived.Test.YtlidilnakiphiaaDoorStN
import Derived.Test.YtlidilnakiphiaaDoorStL
import Derived.Test.YtlidilnakiphiaaDoorSR
import Derived.Test.YtlidilnakiphiaaDoorStJ
import Derived.Test.YtlidilnakiphiaaDoorPkH
import Derived.Test.YtlidilnakiphiaaDoorLkG
namespace Go.Proofs.YtlidilnakiphiaaDoor

open Go.RowKit

set_option linter.unusedVariables false

set_option linter.unusedSimpArgs false

set_option maxRecDepth 20000

theorem put_seg (l1 m m' l2 : List Seg) (hm : slen m' = slen m) : putL (cel (l1 ++ m ++ l2)) (slen l1) (celL m') = cel (l1 ++ m' ++ l2) := by
  have hs : slen (l1 ++ m ++ l2) = slen l1 + slen m + slen l2 := by
    rw [← celL_len, celL_app, celL_app, List.length_append, List.length_append, celL_len, celL_len, celL_len]
  rw [putL_eq _ _ _ (by rw [cel_size, celL_len, hm, hs]; omega), celL_len, hm, cel_put]

end Go.Proofs.YtlidilnakiphiaaDoor
