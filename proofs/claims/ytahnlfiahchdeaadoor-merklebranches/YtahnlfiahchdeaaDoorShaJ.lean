/-
  What sha.Sum and sha.Two answer.
-/
import Derived.Test.YtahnlfiahchdeaaDoorShaI
namespace Go.Proofs.YtahnlfiahchdeaaDoor
open Go.RowKit
set_option linter.unusedVariables false

attribute [local go_sem ↓] sv24_eq lv24_eq

end Go.Proofs.YtahnlfiahchdeaaDoor
