/-
  What SszBools answers.
-/
import Derived.Test.YtfhplpcbaoefeaaSzK
import Derived.ScopeJumps
namespace Go.Proofs.Ytfhplpcbaoefeaa
open Go.RowKit
set_option linter.unusedVariables false
set_option linter.unusedSimpArgs false

/-- The frame with which the one end is reached. -/
def Ref (w : World) (err : Int) (v5 v6 v7 v8 v9 v10 v11 v0 : Value) (a' : Act) (w' : World) : Prop :=
  w' = w ∧ a' = { tmps := #[v0, undef, .bool false, .int .i64 0, .int .i64 err, v5, v6, v7, v8, v9, v10, v11, undef, undef, undef, undef, undef], defers := [] }

end Go.Proofs.Ytfhplpcbaoefeaa
