/-
  What inOrder, bytes.Clone and piece answer.
  What looseParts answers.
  What containerParts answers.
  What ssz.Cut answers where it cuts.
-/
import Derived.Test.YtmbgidfngefniaaZaA
import Derived.Laws.Cover3
import Derived.ScopeJumps
namespace Go.Proofs.Ytmbgidfngefniaa.Z

open Go.RowKit

set_option linter.unusedVariables false

set_option linter.unusedSimpArgs false

/-- None below the one ahead of it, none above L. -/
def ordAt (os : Nat → Int) (L : Int) (i : Nat) : Prop := (if i = 0 then 0 else os (i - 1)) ≤ os i ∧ os i ≤ L

instance (os : Nat → Int) (L : Int) (i : Nat) : Decidable (ordAt os L i) := by unfold ordAt; infer_instance

def sm22 (x : Value) (lo hi mx : Option Value) : Sem Value := Instr.sliceAt 39 x lo hi mx

theorem sm22_eq (x : Value) (lo hi mx : Value) : Instr.sliceAt 39 x (some lo) (some hi) (some mx) = sm22 x (some lo) (some hi) (some mx) := rfl

attribute [local go_sem ↓] sm22_eq

end Go.Proofs.Ytmbgidfngefniaa.Z

namespace Go.Proofs.Ytmbgidfngefniaa.Z

open Go.RowKit

set_option linter.unusedVariables false

set_option linter.unusedSimpArgs false

end Go.Proofs.Ytmbgidfngefniaa.Z

namespace Go.Proofs.Ytmbgidfngefniaa.Z

open Go.RowKit

set_option linter.unusedVariables false

set_option linter.unusedSimpArgs false

end Go.Proofs.Ytmbgidfngefniaa.Z

namespace Go.Proofs.Ytmbgidfngefniaa.Z

open Go.RowKit

set_option linter.unusedVariables false

set_option linter.unusedSimpArgs false

end Go.Proofs.Ytmbgidfngefniaa.Z
