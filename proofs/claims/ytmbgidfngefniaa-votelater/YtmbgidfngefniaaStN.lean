/-
  StateBounds: less in a right state leaves it right; one balance more does not.
-/

import Derived.Test.YtmbgidfngefniaaStD
import Derived.Test.YtmbgidfngefniaaStF
import Derived.Test.YtmbgidfngefniaaStI
import Derived.Test.YtmbgidfngefniaaStL
import Derived.BigRegion

namespace Go.Proofs.Ytmbgidfngefniaa

open Go.RowKit

set_option linter.unusedVariables false

set_option linter.unusedSimpArgs false

set_option maxRecDepth 20000

/-- The place that an integer names among n. -/
theorem place (i : Int) (n : Nat) (hn : 0 < n) : ∃ K : Nat, K < n ∧ (i.tmod n + n).tmod n = (K : Int) ∧ -(n : Int) < i.tmod n ∧ i.tmod n < n := by
  have h1 : -(n : Int) < i.tmod n := by
    have := Int.lt_tmod_of_pos i (show (0 : Int) < n by omega)
    omega
  have h2 : i.tmod n < n := Int.tmod_lt_of_pos i (by omega)
  have h3 : 0 ≤ (i.tmod n + n).tmod n := Int.tmod_nonneg _ (by omega)
  have h4 : (i.tmod n + n).tmod n < n := Int.tmod_lt_of_pos _ (by omega)
  exact ⟨((i.tmod n + n).tmod n).toNat, by omega, by omega, h1, h2⟩

end Go.Proofs.Ytmbgidfngefniaa
