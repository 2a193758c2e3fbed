/-
  What the reference's sizesOK and Head answer.
-/
import Derived.Test.YtfhplpcbaoefeaaSzP
namespace Go.Proofs.Ytfhplpcbaoefeaa
open Go.RowKit
set_option linter.unusedVariables false
set_option linter.unusedSimpArgs false

end Go.Proofs.Ytfhplpcbaoefeaa
