/-
  The bytes of states: in range, and which differ.
-/

import Derived.Test.YtehpfemlcjcabaaStK
namespace Go.Proofs.Ytehpfemlcjcabaa

open Go.RowKit

set_option linter.unusedVariables false

set_option linter.unusedSimpArgs false

set_option maxRecDepth 20000

/-- The bytes of a state. -/
def mS (x : VState) (j : Nat) : Int := (Z.layC zS (pF x) (pL x) 24).getD j 0

theorem mS_len (x : VState) : (Z.layC zS (pF x) (pL x) 24).length = tL x := Z.layC_len zS (pF x) (pL x) 24 (fitsS x)

theorem mS_bl (x : VState) : Z.iv (Z.layC zS (pF x) (pL x) 24) = bl (mS x) (tL x) := by
  rw [Z.iv_bl, mS_len]
  rfl

end Go.Proofs.Ytehpfemlcjcabaa
