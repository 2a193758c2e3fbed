/-
  The state of the statements' own awake.
-/

import Derived.Test.YtmbgidfngefniaaLkG
import Derived.Test.YtmbgidfngefniaaLkA
import Derived.Test.YtmbgidfngefniaaStI
namespace Go.Proofs.Ytmbgidfngefniaa

open Go.RowKit

set_option linter.unusedVariables false

set_option linter.unusedSimpArgs false

set_option maxRecDepth 100000

def bvV (ps : Array (Nat × Value)) : Sem Value := Instr.build 63 ps

theorem bvV_eq (ps : Array (Nat × Value)) : Instr.build 63 ps = bvV ps := rfl

def bsV (n : Nat) (ps : Array (Nat × Value)) : Sem Value := Instr.buildSlice 36 n ps

theorem bsV_eq (n : Nat) (ps : Array (Nat × Value)) : Instr.buildSlice 36 n ps = bsV n ps := rfl

/-- One validator that is active up to the epoch 9. -/
def oV1 : VValidator := ⟨fun _ => 0, fun _ => 0, 32000000000, false, 0, 0, 9, 0⟩

def X0 (g1 g2 g3 g4 g5 : Nat) : VState := { oState with f11 := ⟨some ⟨g1, 0, none⟩, 1, 1, fun _ => oV1⟩, f12 := ⟨some ⟨g2, 0, none⟩, 1, 1, fun _ => 0⟩, f15 := ⟨some ⟨g3, 0, none⟩, 1, 1, fun _ => 0⟩, f16 := ⟨some ⟨g4, 0, none⟩, 1, 1, fun _ => 0⟩, f21 := ⟨some ⟨g5, 0, none⟩, 1, 1, fun _ => 0⟩ }

end Go.Proofs.Ytmbgidfngefniaa
