/-
  Whether a state is right.
-/

import Derived.Test.YtenhgoclfljjlaaDoorStA
namespace Go.Proofs.YtenhgoclfljjlaaDoor

open Go.RowKit

set_option linter.unusedVariables false

set_option linter.unusedSimpArgs false

set_option maxRecDepth 20000

attribute [local go_sem ↓] lvState_eq svState_eq bdState_eq lvValidator_eq svValidator_eq

def fitB (x : VState) : Bool := decide ((x.f7.n : Int) ≤ 1024) && decide ((x.f9.n : Int) ≤ 8) && decide ((x.f11.n : Int) ≤ 65536) && decide ((x.f12.n : Int) ≤ 65536) && decide ((x.f15.n : Int) ≤ 65536) && decide ((x.f16.n : Int) ≤ 65536) && decide ((x.f21.n : Int) ≤ 65536)

def lensB (x : VState) : Bool := decide ((x.f12.n : Int) = (x.f11.n : Int)) && decide ((x.f15.n : Int) = (x.f11.n : Int)) && decide ((x.f16.n : Int) = (x.f11.n : Int)) && decide ((x.f21.n : Int) = (x.f11.n : Int))

def timB (x : VState) : Bool := decide (x.f2 < 1099511627776) && decide (x.f4.f0 ≤ x.f2) && decide (x.f18.f0 ≤ x.f2 / 4) && decide (x.f19.f0 ≤ x.f2 / 4) && decide (x.f20.f0 ≤ x.f2 / 4)

end Go.Proofs.YtenhgoclfljjlaaDoor
