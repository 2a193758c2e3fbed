/-
  Committees compared.
-/

import Derived.Test.YtmbgidfngefniaaCmA
import Derived.Test.YtmbgidfngefniaaLkM
import Derived.Test.YtmbgidfngefniaaVfP
import Derived.Test.YtmbgidfngefniaaLkA
import Derived.Test.YtmbgidfngefniaaSkA
import Derived.Test.YtmbgidfngefniaaStN
import Derived.Test.YtmbgidfngefniaaStL
import Derived.Test.YtmbgidfngefniaaStD
import Derived.Test.YtmbgidfngefniaaStF
import Derived.Test.YtmbgidfngefniaaStI
import Derived.Test.YtmbgidfngefniaaPkE
import Derived.DeepKeys

namespace Go.Proofs.Ytmbgidfngefniaa

open Go.RowKit

set_option linter.unusedVariables false

set_option linter.unusedSimpArgs false

set_option maxRecDepth 20000

theorem lits_u8 (d : Nat) (c : Int) (h : 0 ≤ c ∧ c < 256) : Try.prog.keyLits (d + 1) 5 [.int .u8 c] = some [.int .u8 c] := by
  have hw : (Lit.int .u8 c).wf = true := by
    have : IntKind.u8.min = 0 ∧ IntKind.u8.max = 255 := by decide
    simp [Lit.wf, this]
    omega
  simp [Program.keyLits, Try.underlying5, hw]

/-- The bytes of a row, from a place on. -/
theorem bl_part (f : Nat → Int) (n o k : Nat) (h : o + k ≤ n) : ((bl f n).drop o).take k = bl (fun j => f (o + j)) k := by
  apply List.ext_getElem?
  intro j
  rw [List.getElem?_take]
  by_cases hj : j < k
  · rw [if_pos hj, List.getElem?_drop]
    unfold bl
    rw [List.getElem?_map, List.getElem?_range (by omega), List.getElem?_map, List.getElem?_range hj]
    rfl
  · rw [if_neg hj]
    unfold bl
    rw [List.getElem?_eq_none (by simp; omega)]

end Go.Proofs.Ytmbgidfngefniaa
