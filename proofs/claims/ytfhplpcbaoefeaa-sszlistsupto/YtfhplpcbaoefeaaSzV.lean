/-
  What the reference's four and LayMany answer.
-/
import Derived.Test.YtfhplpcbaoefeaaSzU
namespace Go.Proofs.Ytfhplpcbaoefeaa
open Go.RowKit
set_option linter.unusedVariables false
set_option linter.unusedSimpArgs false

end Go.Proofs.Ytfhplpcbaoefeaa
