/-
  What the reference's draw answers.
-/

import Derived.Test.YtficlakgameglaaDoorQI
import Derived.Test.YtficlakgameglaaDoorQL
import Derived.BigQuiet

import Derived.Deep.QuietTactic

namespace Go.Proofs.YtficlakgameglaaDoor

open Go.RowKit

set_option linter.unusedVariables false

set_option linter.unusedSimpArgs false

set_option maxRecDepth 20000

attribute [local go_sem ↓] lvState_eq svState_eq bdState_eq lvValidator_eq svValidator_eq ixValidator_eq sv24_eq lv24_eq sv8_eq

theorem some_ltK {W : World} {y : Nat} {o : Obj} (h : W.heap[y]? = some o) : y < W.heap.size := (Array.getElem?_eq_some_iff.1 h).1

/-- What a draw answers, in memory. -/
def DwA (z : Nat → VValidator) (L : List Int) (s : Nat → Int) (want : Nat) (w : World) (e' : Ending) (w' : World) : Prop :=
  ∃ a c, e' = .returned (.tuple #[.slice a (dwL z L s want).length c, .int .i64 (dwE z L s want)]) ∧ Nml w' a (dwL z L s want) ∧ Below w.heap.size w w'

end Go.Proofs.YtficlakgameglaaDoor
