/-
  What the reference's Up and Holds answer; what MerkleHolds answers.
  What MerkleHolds answers.
  What the reference's Same, Depth and Zero answer.
  What the reference's Zero answers.
  Halves of a tree, as functions; the reference's recursion is the tree.
-/
import Derived.Test.YtmjdofegmelgbaaDoorMaC
import Derived.Test.YtmjdofegmelgbaaDoorHaG
import Derived.Test.YtmjdofegmelgbaaDoorMaA
import Derived.Maps.AppendAt
namespace Go.Proofs.YtmjdofegmelgbaaDoor

open Go.RowKit

set_option linter.unusedVariables false

set_option linter.unusedSimpArgs false

attribute [local go_sem ↓] sv24_eq lv24_eq ix22_eq slr_eq bd27_eq bs22_eq sl22_eq mk22_eq eqo_eq

end Go.Proofs.YtmjdofegmelgbaaDoor

namespace Go.Proofs.YtmjdofegmelgbaaDoor

open Go.RowKit

set_option linter.unusedVariables false

set_option linter.unusedSimpArgs false

attribute [local go_sem ↓] sv24_eq lv24_eq ix22_eq slr_eq bd27_eq sl22_eq mk22_eq eqo_eq

end Go.Proofs.YtmjdofegmelgbaaDoor

namespace Go.Proofs.YtmjdofegmelgbaaDoor

open Go.RowKit

set_option linter.unusedVariables false

set_option linter.unusedSimpArgs false

theorem yields_neo {ops : Array Oper} {S : World → Prop} {op : Oper} {a : Act} (hw : Region.wanted op (yielded ops a.tmps) = true) (x y : Operand) (rt : TypeId) (ho : op.op = .binOp .neq 24 x y rt) (c d : Nat → Int)
    (hx : a.eval x = .agg (vs .u8 32 c)) (hy : a.eval y = .agg (vs .u8 32 d)) : YieldsIf Tryd.prog ops S op (.bool (!eqR c d)) a :=
  .inl ⟨hw, fun w _ => by
    have h : (Op.equalIn Op.maxDepth 24 (.agg (vs .u8 32 c)) (.agg (vs .u8 32 d))).run Tryd.prog w = .ok (eqR c d) w := eq32g w c d
    unfold execOp
    simp [ho, hx, hy, eqGuard, binOp, Op.equal, h]⟩

attribute [local go_sem ↓] sv24_eq lv24_eq ix22_eq slr_eq bd27_eq bs22_eq sl22_eq mk22_eq eqo_eq

end Go.Proofs.YtmjdofegmelgbaaDoor

namespace Go.Proofs.YtmjdofegmelgbaaDoor

open Go.RowKit

set_option linter.unusedVariables false

set_option linter.unusedSimpArgs false

attribute [local go_sem ↓] sv24_eq lv24_eq ix22_eq slr_eq bd27_eq bs22_eq sl22_eq mk22_eq eqo_eq

end Go.Proofs.YtmjdofegmelgbaaDoor

namespace Go.Proofs.YtmjdofegmelgbaaDoor

open Go.RowKit

set_option linter.unusedVariables false

set_option linter.unusedSimpArgs false

end Go.Proofs.YtmjdofegmelgbaaDoor
