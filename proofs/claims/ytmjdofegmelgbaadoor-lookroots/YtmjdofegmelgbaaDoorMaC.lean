/-
  What Pack makes of bytes.
  What Mix and Holds answer.
  The fixed answers that every statement of layer 5 asks first are right.
  What MerkleMixes answers.
-/
import Derived.Test.YtmjdofegmelgbaaDoorMaB
import Derived.Laws.MakeOwn
namespace Go.Proofs.YtmjdofegmelgbaaDoor

open Go.RowKit

set_option linter.unusedVariables false

set_option linter.unusedSimpArgs false

/-- Slices of bytes, whole. -/
def sl22 (x : Value) (lo hi : Option Value) : Sem Value := Instr.sliceAt 39 x lo hi none

theorem sl22_eq (x : Value) (lo hi : Option Value) : Instr.sliceAt 39 x lo hi none = sl22 x lo hi := rfl

/-- Roots made. -/
def mk22 (x y : Value) : Sem Value := Instr.makeSlice 32 x y

theorem mk22_eq (x y : Value) : Instr.makeSlice 32 x y = mk22 x y := rfl

/-- The packed bytes. -/
def pk (m : Nat → Int) (len : Nat) (q : Nat) : Int := if q < len then m q else 0

attribute [local go_sem ↓] sv24_eq lv24_eq ix22_eq slr_eq bd27_eq bs22_eq sl22_eq mk22_eq

end Go.Proofs.YtmjdofegmelgbaaDoor

namespace Go.Proofs.YtmjdofegmelgbaaDoor

open Go.RowKit

set_option linter.unusedVariables false

set_option linter.unusedSimpArgs false

attribute [local go_sem ↓] sv24_eq lv24_eq ix22_eq slr_eq bd27_eq bs22_eq sl22_eq mk22_eq

/-- A number as a chunk. -/
def nmB (n : Int) (j : Nat) : Int := n / 2 ^ (8 * j) % 256

/-- Roots compared. -/
def eqR (c d : Nat → Int) : Bool := (List.range 32).all fun j => c j == d j

theorem eqR_self (c : Nat → Int) : eqR c c = true := by simp [eqR]

theorem eq32g (w : World) (c d : Nat → Int) : (Op.equalIn 10000 24 (.agg (vs .u8 32 c)) (.agg (vs .u8 32 d))).run Tryd.prog w = .ok (eqR c d) w := by
  have hi : ∃ i, Tryd.prog.info? 5 = some i := Option.isSome_iff_exists.1 (by kernel_rfl)
  obtain ⟨i, hi⟩ := hi
  have hc : Tryd.prog.cellsOf 5 = 1 := by kernel_rfl
  rw [run_equalIn_array w 9999 _ _ Tryd.underlying24 hi, hc]
  exact run_eqItems_ints (P := Tryd.prog) 9998 5 .u8 .u8 Tryd.underlying5 agg_u8 (vs .u8 32 c) (vs .u8 32 d) c d w (List.range 32) (by
    intro j hj
    have hj := List.mem_range.1 hj
    exact ⟨vs_get _ _ _ _ hj, vs_get _ _ _ _ hj⟩)

end Go.Proofs.YtmjdofegmelgbaaDoor

namespace Go.Proofs.YtmjdofegmelgbaaDoor

open Go.RowKit

set_option linter.unusedVariables false

set_option linter.unusedSimpArgs false

attribute [local go_sem ↓] sv24_eq lv24_eq ix22_eq slr_eq bd27_eq bs22_eq sl22_eq mk22_eq

end Go.Proofs.YtmjdofegmelgbaaDoor

namespace Go.Proofs.YtmjdofegmelgbaaDoor

open Go.RowKit

set_option linter.unusedVariables false

set_option linter.unusedSimpArgs false

/-- Roots compared, whole. -/
def eqo (x y : Value) : Sem Value := binOp .eql 24 x y

theorem eqo_eq (x y : Value) : binOp .eql 24 x y = eqo x y := rfl

theorem eqo_run (w : World) (c d : Nat → Int) : (eqo (.agg (vs .u8 32 c)) (.agg (vs .u8 32 d))).run Tryd.prog w = .ok (.bool (eqR c d)) w := by
  have h := eq32g w c d
  unfold eqo
  have h2 : (Op.equalIn Op.maxDepth 24 (.agg (vs .u8 32 c)) (.agg (vs .u8 32 d))).run Tryd.prog w = .ok (eqR c d) w := h
  simp [binOp, Op.equal, h2]

theorem yields_eqo {ops : Array Oper} {S : World → Prop} {op : Oper} {a : Act} (hw : Region.wanted op (yielded ops a.tmps) = true) (x y : Operand) (rt : TypeId) (ho : op.op = .binOp .eql 24 x y rt) (c d : Nat → Int)
    (hx : a.eval x = .agg (vs .u8 32 c)) (hy : a.eval y = .agg (vs .u8 32 d)) : YieldsIf Tryd.prog ops S op (.bool (eqR c d)) a :=
  .inl ⟨hw, fun w _ => by
    have h := eqo_run w c d
    unfold eqo at h
    unfold execOp
    simp [ho, hx, hy, eqGuard, h]⟩

attribute [local go_sem ↓] sv24_eq lv24_eq ix22_eq slr_eq bd27_eq bs22_eq sl22_eq mk22_eq eqo_eq

end Go.Proofs.YtmjdofegmelgbaaDoor
