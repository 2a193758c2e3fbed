/-
  Whether a state is right: its numbers and validators.
-/

import Derived.Test.YtenhgoclfljjlaaDoorStB
namespace Go.Proofs.YtenhgoclfljjlaaDoor

open Go.RowKit

set_option linter.unusedVariables false

set_option linter.unusedSimpArgs false

set_option maxRecDepth 20000

attribute [local go_sem ↓] lvState_eq svState_eq bdState_eq lvValidator_eq svValidator_eq

def epB (n : Int) : Bool := decide (n = 18446744073709551615) || decide (n < 2199023255552)

/-- The sum of numbers. -/
def sumZ (z : Nat → Int) : Nat → Int
  | 0 => 0
  | k + 1 => sumZ z k + z k

theorem sumZ_mono {z : Nat → Int} {n : Nat} (h : ∀ j, j < n → 0 ≤ z j) (k : Nat) (hk : k ≤ n) : ∀ d, k + d ≤ n → sumZ z k ≤ sumZ z (k + d)
  | 0, _ => Int.le_refl _
  | d + 1, hd => Int.le_trans (sumZ_mono h k hk d (by omega)) (by
    show sumZ z (k + d) ≤ sumZ z (k + d) + z (k + d)
    have := h (k + d) (by omega)
    omega)

def togB (z : Nat → Int) (n : Nat) (most : Int) : Bool := decide (sumZ z n ≤ most)

def scoB (z : Nat → Int) (n : Nat) : Bool := (List.range n).all fun i => decide (z i ≤ 1099511627776)

end Go.Proofs.YtenhgoclfljjlaaDoor
