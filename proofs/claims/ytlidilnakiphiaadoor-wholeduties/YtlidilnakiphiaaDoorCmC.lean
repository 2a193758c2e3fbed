/-
  The statements' own few: a state with some validators; and their awake, by what the program's functions answer.
-/

import Derived.Test.YtlidilnakiphiaaDoorCmB
import Derived.Test.YtlidilnakiphiaaDoorLkJ
import Derived.Test.YtlidilnakiphiaaDoorStL
import Derived.ArgAppend

namespace Go.Proofs.YtlidilnakiphiaaDoor

open Go.RowKit

set_option linter.unusedVariables false

set_option linter.unusedSimpArgs false

set_option maxRecDepth 100000

/-- A validator that is active from the start. -/
def oV2 : VValidator := ⟨fun _ => 0, fun _ => 0, 32000000000, false, 0, 0, 18446744073709551615, 18446744073709551615⟩

/-- The lists of such a state. -/
structure FS where
  a11 : Option Addr
  n11 : Nat
  c11 : Nat
  a12 : Option Addr
  n12 : Nat
  c12 : Nat
  a15 : Option Addr
  n15 : Nat
  c15 : Nat
  a16 : Option Addr
  n16 : Nat
  c16 : Nat
  a21 : Option Addr
  n21 : Nat
  c21 : Nat

def fX (s : FS) : VState := { oState with f11 := ⟨s.a11, s.n11, s.c11, fun _ => oV2⟩, f12 := ⟨s.a12, s.n12, s.c12, fun _ => 32000000000⟩, f15 := ⟨s.a15, s.n15, s.c15, fun _ => 0⟩, f16 := ⟨s.a16, s.n16, s.c16, fun _ => 0⟩, f21 := ⟨s.a21, s.n21, s.c21, fun _ => 0⟩ }

def fs0 : FS := ⟨none, 0, 0, none, 0, 0, none, 0, 0, none, 0, 0, none, 0, 0⟩

theorem okCz : OkState (fX fs0) := by
  have z : (0 : Int) ≤ 0 ∧ (0 : Int) < 256 := by decide
  have zz : (0 : Int) ≤ 0 ∧ (0 : Int) < 18446744073709551616 := by decide
  exact ⟨zz, fun _ _ => z, zz, ⟨fun _ _ => z, fun _ _ => z, zz⟩, ⟨zz, zz, fun _ _ => z, fun _ _ => z, fun _ _ => z⟩, fun _ _ => z, fun _ _ => z, fun _ h => absurd h (Nat.not_lt_zero _), ⟨fun _ _ => z, zz, fun _ _ => z⟩, fun _ h => absurd h (Nat.not_lt_zero _), zz, fun _ h => absurd h (Nat.not_lt_zero _), fun _ h => absurd h (Nat.not_lt_zero _), fun _ _ => z, fun _ _ => zz, fun _ h => absurd h (Nat.not_lt_zero _), fun _ h => absurd h (Nat.not_lt_zero _), ⟨zz, fun _ _ => z⟩, ⟨zz, fun _ _ => z⟩, ⟨zz, fun _ _ => z⟩, fun _ h => absurd h (Nat.not_lt_zero _), ⟨fun _ _ => z, fun _ _ => z⟩, ⟨fun _ _ => z, fun _ _ => z⟩⟩

attribute [local go_sem ↓] lvState_eq svState_eq bdState_eq bvV_eq bsV_eq

end Go.Proofs.YtlidilnakiphiaaDoor
