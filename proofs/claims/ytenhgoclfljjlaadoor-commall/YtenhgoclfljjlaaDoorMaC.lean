/-
  What Pack makes of bytes.
  What Mix and Holds answer.
  The fixed answers that every statement of layer 5 asks first are right.
  What MerkleMixes answers.
-/
import Derived.Test.YtenhgoclfljjlaaDoorMaB
import Derived.Laws.MakeOwn
namespace Go.Proofs.YtenhgoclfljjlaaDoor

open Go.RowKit

set_option linter.unusedVariables false

set_option linter.unusedSimpArgs false

/-- Slices of bytes, whole. -/
def sl22 (x : Value) (lo hi : Option Value) : Sem Value := Instr.sliceAt 39 x lo hi none

theorem sl22_eq (x : Value) (lo hi : Option Value) : Instr.sliceAt 39 x lo hi none = sl22 x lo hi := rfl

/-- Roots made. -/
def mk22 (x y : Value) : Sem Value := Instr.makeSlice 32 x y

theorem mk22_eq (x y : Value) : Instr.makeSlice 32 x y = mk22 x y := rfl

/-- The packed bytes. -/
def pk (m : Nat → Int) (len : Nat) (q : Nat) : Int := if q < len then m q else 0

attribute [local go_sem ↓] sv24_eq lv24_eq ix22_eq slr_eq bd27_eq bs22_eq sl22_eq mk22_eq

end Go.Proofs.YtenhgoclfljjlaaDoor

namespace Go.Proofs.YtenhgoclfljjlaaDoor

open Go.RowKit

set_option linter.unusedVariables false

set_option linter.unusedSimpArgs false

attribute [local go_sem ↓] sv24_eq lv24_eq ix22_eq slr_eq bd27_eq bs22_eq sl22_eq mk22_eq

/-- A number as a chunk. -/
def nmB (n : Int) (j : Nat) : Int := n / 2 ^ (8 * j) % 256

end Go.Proofs.YtenhgoclfljjlaaDoor

namespace Go.Proofs.YtenhgoclfljjlaaDoor

open Go.RowKit

set_option linter.unusedVariables false

set_option linter.unusedSimpArgs false

attribute [local go_sem ↓] sv24_eq lv24_eq ix22_eq slr_eq bd27_eq bs22_eq sl22_eq mk22_eq

end Go.Proofs.YtenhgoclfljjlaaDoor

namespace Go.Proofs.YtenhgoclfljjlaaDoor

open Go.RowKit

set_option linter.unusedVariables false

set_option linter.unusedSimpArgs false

/-- Roots compared, whole. -/
def eqo (x y : Value) : Sem Value := binOp .eql 24 x y

theorem eqo_eq (x y : Value) : binOp .eql 24 x y = eqo x y := rfl

attribute [local go_sem ↓] sv24_eq lv24_eq ix22_eq slr_eq bd27_eq bs22_eq sl22_eq mk22_eq eqo_eq

end Go.Proofs.YtenhgoclfljjlaaDoor
