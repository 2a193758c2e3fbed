/-
  Less in a right state leaves it right.
-/

import Derived.Test.YtehpfemlcjcabaaStD
import Derived.Test.YtehpfemlcjcabaaStL
namespace Go.Proofs.Ytehpfemlcjcabaa

open Go.RowKit

set_option linter.unusedVariables false

set_option linter.unusedSimpArgs false

set_option maxRecDepth 20000

/-- A state with one balance more. -/
def moreV (X : VState) (a : Option Addr) (c : Nat) (z : Nat → Int) : VState := { X with f12 := ⟨a, X.f12.n + 1, c, z⟩ }

end Go.Proofs.Ytehpfemlcjcabaa
