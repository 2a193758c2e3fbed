/-
  The state of the statements' own awake.
-/

import Derived.Test.YtmpagacbmoeipaaDoorLkG
import Derived.Test.YtmpagacbmoeipaaDoorLQ
import Derived.Test.YtmpagacbmoeipaaDoorStI
namespace Go.Proofs.YtmpagacbmoeipaaDoor

open Go.RowKit

set_option linter.unusedVariables false

set_option linter.unusedSimpArgs false

set_option maxRecDepth 100000

def bvV (ps : Array (Nat × Value)) : Sem Value := Instr.build 73 ps

theorem bvV_eq (ps : Array (Nat × Value)) : Instr.build 73 ps = bvV ps := rfl

def bsV (n : Nat) (ps : Array (Nat × Value)) : Sem Value := Instr.buildSlice 36 n ps

theorem bsV_eq (n : Nat) (ps : Array (Nat × Value)) : Instr.buildSlice 36 n ps = bsV n ps := rfl

end Go.Proofs.YtmpagacbmoeipaaDoor
