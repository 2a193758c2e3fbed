/-
  What the document's Root answers: bit by bit.
-/

import Derived.Test.YtmjdofegmelgbaaDoorLkA
import Derived.Laws.Bits64b

namespace Go.Proofs.YtmjdofegmelgbaaDoor

open Go.RowKit

set_option linter.unusedVariables false

set_option linter.unusedSimpArgs false

set_option maxRecDepth 20000

/-- r is the root of n. -/
def IsRut (n r : Int) : Prop := 0 ≤ r ∧ r * r ≤ n ∧ n < (r + 1) * (r + 1)

theorem rut_unique {n r s : Int} (hr : IsRut n r) (hs : IsRut n s) : r = s := by
  obtain ⟨a0, a1, a2⟩ := hr
  obtain ⟨b0, b1, b2⟩ := hs
  by_cases h1 : r < s
  · have : (r + 1) * (r + 1) ≤ s * s := Int.mul_le_mul (by omega) (by omega) (by omega) b0
    omega
  · by_cases h2 : s < r
    · have : (s + 1) * (s + 1) ≤ r * r := Int.mul_le_mul (by omega) (by omega) (by omega) a0
      omega
    · omega

end Go.Proofs.YtmjdofegmelgbaaDoor
