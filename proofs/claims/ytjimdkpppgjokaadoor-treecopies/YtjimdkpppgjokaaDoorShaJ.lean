/-
  What sha.Sum and sha.Two answer.
-/
import Derived.Test.YtjimdkpppgjokaaDoorShaI
namespace Go.Proofs.YtjimdkpppgjokaaDoor
open Go.RowKit
set_option linter.unusedVariables false

attribute [local go_sem ↓] sv24_eq lv24_eq

end Go.Proofs.YtjimdkpppgjokaaDoor
