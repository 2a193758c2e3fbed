/-
  What the document's Per, Reward and Same answer.
-/

import Derived.Test.YtmjdofegmelgbaaDoorLkC
import Derived.Test.YtmjdofegmelgbaaDoorLkD
namespace Go.Proofs.YtmjdofegmelgbaaDoor

open Go.RowKit

set_option linter.unusedVariables false

set_option linter.unusedSimpArgs false

set_option maxRecDepth 20000

attribute [local go_sem ↓] lvState_eq svState_eq bdState_eq lvValidator_eq svValidator_eq ixValidator_eq

theorem root_pos {n r : Int} (h : IsRut n r) (hn : 1000000000 ≤ n) : 31622 ≤ r := by
  obtain ⟨h0, h1, h2⟩ := h
  by_cases hr : 31622 ≤ r
  · exact hr
  · have : (r + 1) * (r + 1) ≤ 31622 * 31622 := Int.mul_le_mul (by omega) (by omega) (by omega) (by omega)
    omega

theorem per_bd {r : Int} (h : 31622 ≤ r) : 0 ≤ 64000000000 / r ∧ 64000000000 / r ≤ 64000000000 := ⟨Int.ediv_nonneg (by omega) (by omega), Int.ediv_le_self r (by omega)⟩

theorem tup2 {a b : Int} (h : a = b) : Ending.returned (.tuple #[.int .u64 a, .int .i64 0]) = .returned (.tuple #[.int .u64 b, .int .i64 0]) := by rw [h]

/-- A validator's reward. -/
def rwS (x : VState) (r : Int) (i : Nat) : Int := (x.f11.z i).f2 / 1000000000 * (64000000000 / r)

end Go.Proofs.YtmjdofegmelgbaaDoor
