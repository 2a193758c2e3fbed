/-
  A copy of a state.
-/

import Derived.Test.YtmbgidfngefniaaStI
namespace Go.Proofs.Ytmbgidfngefniaa

open Go.RowKit

set_option linter.unusedVariables false

set_option linter.unusedSimpArgs false

set_option maxRecDepth 20000

/-- Elements one behind the other. -/
def flat (e : Nat → List Value) : Nat → List Value
  | 0 => []
  | n + 1 => flat e n ++ e n

structure NilW (x : VState) : Prop where
  n9 : x.f9.a = none → x.f9.n = 0 ∧ x.f9.c = 0
  n11 : x.f11.a = none → x.f11.n = 0 ∧ x.f11.c = 0
  n12 : x.f12.a = none → x.f12.n = 0 ∧ x.f12.c = 0
  n21 : x.f21.a = none → x.f21.n = 0 ∧ x.f21.c = 0

attribute [local go_sem ↓] lvState_eq svState_eq

end Go.Proofs.Ytmbgidfngefniaa
