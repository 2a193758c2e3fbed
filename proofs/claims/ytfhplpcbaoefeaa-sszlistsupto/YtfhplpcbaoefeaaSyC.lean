/-
  What SszLays answers.
-/
import Derived.Test.YtfhplpcbaoefeaaSyB
namespace Go.Proofs.Ytfhplpcbaoefeaa
open Go.RowKit
set_option linter.unusedVariables false
set_option linter.unusedSimpArgs false

theorem loL_le (zs : Nat → Int) (L : Nat → Nat) (k : Nat) : loL zs L k ≤ sumL L k := by
  induction k with
  | zero => exact Nat.le_refl _
  | succ k ih =>
    show loL zs L k + (if zs k = 0 then L k else 0) ≤ sumL L k + L k
    by_cases h : zs k = 0
    · rw [if_pos h]; omega
    · rw [if_neg h]; omega
theorem conv_nil (W : World) : (convert 22 9 (.slice none 0 0)).run Try.prog W = .ok (.string (strF (fun _ => 0) 0)) W := conv_bys W none 0 0 _ (.inl ⟨rfl, rfl, rfl⟩)

end Go.Proofs.Ytfhplpcbaoefeaa
