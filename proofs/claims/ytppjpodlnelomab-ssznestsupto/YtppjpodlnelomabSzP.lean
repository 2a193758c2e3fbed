/-
  What ssz.Each answers.
-/
import Derived.Test.YtppjpodlnelomabSzO
namespace Go.Proofs.Ytppjpodlnelomab
open Go.RowKit
set_option linter.unusedVariables false
set_option linter.unusedSimpArgs false

/-- The frame with which Each's one end is reached. -/
def RefE (v0 v1 v2 : Value) (err : Int) (a' : Act) : Prop := ∃ u9 u10 u11 u12 u13 u14 u15 u16 u17 u18 u19 u20 u21 u22 u23 u24 u25 u26 u27 u28 u29, a' = { tmps := #[v0, v1, v2, undef, undef, undef, .slice none 0 0, .int .i64 0, .int .i64 err, u9, u10, u11, u12, u13, u14, u15, u16, u17, u18, u19, u20, u21, u22, u23, u24, u25, u26, u27, u28, u29], defers := [] }

end Go.Proofs.Ytppjpodlnelomab
