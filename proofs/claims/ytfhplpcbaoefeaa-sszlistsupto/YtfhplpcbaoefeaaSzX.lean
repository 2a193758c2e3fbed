/-
  What SszMany answers.
-/
import Derived.Test.YtfhplpcbaoefeaaSzW
namespace Go.Proofs.Ytfhplpcbaoefeaa
open Go.RowKit
set_option linter.unusedVariables false
set_option linter.unusedSimpArgs false

theorem mmE_at (n : Nat) (most : Int) : (most < 0 → mmE n most = 1) ∧ (¬ most < 0 → most < n → mmE n most = 6) ∧ ((n : Int) ≤ most → mmE n most = 0) := by
  unfold mmE
  refine ⟨fun h => by rw [if_pos h], fun h1 h2 => by rw [if_neg h1, if_pos h2], fun h => by rw [if_neg (by omega), if_neg (by omega)]⟩

end Go.Proofs.Ytfhplpcbaoefeaa
