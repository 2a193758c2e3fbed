/-
  What equalParts answers.
-/
import Derived.Test.YtppjpodlnelomabSzN
namespace Go.Proofs.Ytppjpodlnelomab
open Go.RowKit
set_option linter.unusedVariables false
set_option linter.unusedSimpArgs false

theorem own_whole {w : World} {base : Nat} {v : Value} {n : Nat} {m : Nat → Int} (h : w.ownsRow base 5 1 v n (bl m n)) :
    ∃ ga C, v = .slice ga n C ∧ n ≤ C ∧ (0 < n → ∃ g, ga = some ⟨g, 0, none⟩ ∧ base ≤ g ∧ g < w.heap.size ∧ ∀ j, j < n → w.cell? ⟨g, j, none⟩ = some (.int .u8 (m j))) := by
  rcases h.2 with ⟨h1, h2⟩ | ⟨g, cap, cur, h1, h2, h3, h4, h5, h6, h7⟩
  · subst h2
    exact ⟨none, 0, h1, Nat.le_refl _, fun h => by omega⟩
  · subst h1
    obtain ⟨a1, a2, a3, a4, a5⟩ := own_cells h
    exact ⟨_, cap, rfl, a3, fun _ => ⟨g, rfl, a1, a2, a5⟩⟩

end Go.Proofs.Ytppjpodlnelomab
