/-
  What CommAll answers, by what the program's Count and Of answer.
-/

import Derived.Test.YtlidilnakiphiaaDoorCmD
import Derived.Test.YtlidilnakiphiaaDoorStP
namespace Go.Proofs.YtlidilnakiphiaaDoor

open Go.RowKit

set_option linter.unusedVariables false

set_option linter.unusedSimpArgs false

set_option maxRecDepth 20000

attribute [local go_sem ↓] lvState_eq svState_eq bdState_eq lvValidator_eq svValidator_eq ixValidator_eq

/-- How often each one stood so far, as numbers of the array. -/
def tvF (F : Nat → Int) (M : Nat) (j : Nat) : Int := (tmV F (j : Int) M : Nat)

theorem tmV_le (F : Nat → Int) (v : Int) (M : Nat) : tmV F v M ≤ M := by
  induction M with
  | zero => exact Nat.le_refl _
  | succ M ih =>
    show (if F M = v then tmV F v M + 1 else tmV F v M) ≤ M + 1
    split <;> omega

theorem tv_step (F : Nat → Int) (M v : Nat) (hv : F M = (v : Int)) : (vs .i64 300 (tvF F M)).setIfInBounds v (.int .i64 (tvF F M v + 1)) = vs .i64 300 (tvF F (M + 1)) := by
  rw [vs_set]
  refine vs_congr fun j _ => ?_
  unfold tvF
  show _ = ((if F M = (j : Int) then tmV F j M + 1 else tmV F j M : Nat) : Int)
  by_cases h : j = v
  · subst h
    rw [if_pos rfl, if_pos hv]
    rfl
  · rw [if_neg h, if_neg (by omega)]

end Go.Proofs.YtlidilnakiphiaaDoor
