/-
  What rise makes of a row.
  What slices.Clone, lowest, isLimit and depthOf answer.
  What lowest makes; what Zero and Tree answer.
  What Tree answers.
-/
import Derived.Test.YtmjdofegmelgbaaMaA
import Derived.Test.YtmjdofegmelgbaaShelf
import Derived.Deep.RegionHeld3
import Derived.Laws.AppendOwnNone
namespace Go.Proofs.Ytmjdofegmelgbaa

open Go.RowKit

set_option linter.unusedVariables false

set_option linter.unusedSimpArgs false

attribute [local go_sem ↓] sv24_eq lv24_eq ix22_eq slr_eq

end Go.Proofs.Ytmjdofegmelgbaa

namespace Go.Proofs.Ytmjdofegmelgbaa

open Go.RowKit

set_option linter.unusedVariables false

set_option linter.unusedSimpArgs false

attribute [local go_sem ↓] sv24_eq lv24_eq ix22_eq slr_eq

/- append of roots onto a row of the own -/

end Go.Proofs.Ytmjdofegmelgbaa

namespace Go.Proofs.Ytmjdofegmelgbaa

open Go.RowKit

set_option linter.unusedVariables false

set_option linter.unusedSimpArgs false

def bd27 (ps : Array (Nat × Value)) : Sem Value := Instr.build 24 ps

theorem bd27_eq (ps : Array (Nat × Value)) : Instr.build 24 ps = bd27 ps := rfl

def bs22 (n : Nat) (ps : Array (Nat × Value)) : Sem Value := Instr.buildSlice 32 n ps

theorem bs22_eq (n : Nat) (ps : Array (Nat × Value)) : Instr.buildSlice 32 n ps = bs22 n ps := rfl

attribute [local go_sem ↓] sv24_eq lv24_eq ix22_eq slr_eq bd27_eq bs22_eq

end Go.Proofs.Ytmjdofegmelgbaa

namespace Go.Proofs.Ytmjdofegmelgbaa

open Go.RowKit

set_option linter.unusedVariables false

set_option linter.unusedSimpArgs false

attribute [local go_sem ↓] sv24_eq lv24_eq ix22_eq slr_eq bd27_eq bs22_eq

/-- Tree's answer: the root and the error. -/
def okL (n : Int) : Prop := 0 ≤ n ∧ n ≤ 1099511627776

instance (n : Int) : Decidable (okL n) := inferInstanceAs (Decidable (0 ≤ n ∧ n ≤ 1099511627776))

def treeV (f : Nat → Int) (len : Nat) (n : Int) : Nat → Int := if okL n ∧ (len : Int) ≤ n then nd f len (dpt n.toNat) 0 else fun _ => 0

end Go.Proofs.Ytmjdofegmelgbaa

