/-
  What stands while a copy of a state is changed.
-/

import Derived.Test.YtmpagacbmoeipaaDoorStN
import Derived.Test.YtmpagacbmoeipaaDoorStL
import Derived.Test.YtmpagacbmoeipaaDoorSR
import Derived.Test.YtmpagacbmoeipaaDoorStJ
import Derived.BigRegion

namespace Go.Proofs.YtmpagacbmoeipaaDoor

open Go.RowKit

set_option linter.unusedVariables false

set_option linter.unusedSimpArgs false

set_option maxRecDepth 20000

theorem own_byF {w : World} {B : Nat} {a : Option Addr} {n c : Nat} {z : Nat → Int} (h : w.ownsRow B 5 1 (.slice a n c) n (bl z n)) : Bys w a n c z := by
  obtain ⟨a', c', e, hb⟩ := own_at h
  cases e
  exact hb

end Go.Proofs.YtmpagacbmoeipaaDoor
