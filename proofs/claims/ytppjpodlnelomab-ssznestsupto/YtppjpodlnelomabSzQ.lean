/-
  What the reference's sizesOK and Head answer.
-/
import Derived.Test.YtppjpodlnelomabSzP
namespace Go.Proofs.Ytppjpodlnelomab
open Go.RowKit
set_option linter.unusedVariables false
set_option linter.unusedSimpArgs false

end Go.Proofs.Ytppjpodlnelomab
