/-
  What the reference's Proposer answers.
-/

import Derived.Test.YtlidilnakiphiaaDoorPkC
import Derived.Deep.Cut

namespace Go.Proofs.YtlidilnakiphiaaDoor

open Go.RowKit

set_option linter.unusedVariables false

set_option linter.unusedSimpArgs false

set_option maxRecDepth 20000

attribute [local go_sem ↓] lvState_eq svState_eq bdState_eq lvValidator_eq svValidator_eq ixValidator_eq sv24_eq lv24_eq sv8_eq

/-- Who proposes. -/
def prS (x : VState) : Nat → Int := shaV KW HW (sd8 (seedV x (x.f2 / 4) 0) x.f2) 40

def prL (x : VState) : List Int := dwL x.f11.z (acE x (x.f2 / 4)) (prS x) 1

def prE (x : VState) : Int := dwE x.f11.z (acE x (x.f2 / 4)) (prS x) 1

def prV (x : VState) : Int := (prL x).getD 0 0

theorem dw_one (z : Nat → VValidator) (L : List Int) (s : Nat → Int) (want : Nat) : (dwE z L s want = 0 ∧ (dwL z L s want).length = want ∧ ∀ v ∈ dwL z L s want, v ∈ L) ∨ (dwE z L s want = 7 ∧ dwL z L s want = []) := by
  unfold dwE dwL
  by_cases h : dwO z L s want = true
  · rw [if_pos h, if_pos h]
    unfold dwO at h
    rw [Bool.and_eq_true, decide_eq_true_eq, decide_eq_true_eq] at h
    exact .inl ⟨rfl, by rw [List.length_take]; omega, fun v hv => drL_mem z L s h.1 256 v (List.mem_of_mem_take hv)⟩
  · rw [if_neg h, if_neg h]
    exact .inr ⟨rfl, rfl⟩

end Go.Proofs.YtlidilnakiphiaaDoor
