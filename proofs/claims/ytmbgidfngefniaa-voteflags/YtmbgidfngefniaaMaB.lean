/-
  What rise makes of a row.
  What slices.Clone, lowest, isLimit and depthOf answer.
  What lowest makes; what Zero and Tree answer.
  What Tree answers.
-/
import Derived.Test.YtmbgidfngefniaaMaA
import Derived.Deep.RegionHeld3
import Derived.Laws.AppendOwnNone
namespace Go.Proofs.Ytmbgidfngefniaa

open Go.RowKit

set_option linter.unusedVariables false

set_option linter.unusedSimpArgs false

attribute [local go_sem ↓] sv24_eq lv24_eq ix22_eq slr_eq

end Go.Proofs.Ytmbgidfngefniaa

namespace Go.Proofs.Ytmbgidfngefniaa

open Go.RowKit

set_option linter.unusedVariables false

set_option linter.unusedSimpArgs false

attribute [local go_sem ↓] sv24_eq lv24_eq ix22_eq slr_eq

/- append of roots onto a row of the own -/

end Go.Proofs.Ytmbgidfngefniaa

namespace Go.Proofs.Ytmbgidfngefniaa

open Go.RowKit

set_option linter.unusedVariables false

set_option linter.unusedSimpArgs false

def bd27 (ps : Array (Nat × Value)) : Sem Value := Instr.build 24 ps

theorem bd27_eq (ps : Array (Nat × Value)) : Instr.build 24 ps = bd27 ps := rfl

theorem bd27_0 (W : World) : (bd27 #[]).run Try.prog W = .ok (.agg (vs .u8 32 fun _ => 0)) W := by kernel_rfl

def bs22 (n : Nat) (ps : Array (Nat × Value)) : Sem Value := Instr.buildSlice 32 n ps

theorem bs22_eq (n : Nat) (ps : Array (Nat × Value)) : Instr.buildSlice 32 n ps = bs22 n ps := rfl

theorem sv24_newv (W : World) (o c : Nat → Int) : (sv24 ⟨W.heap.size, 0, none⟩ (.agg (vs .u8 32 c))).run Try.prog (W.alloc (.cells (vs .u8 32 o) 24)) = .ok () (W.alloc (.cells (vs .u8 32 c) 24)) :=
  run_storeVar_new W 24 _ _ (by rw [vs_size]; kernel_rfl) (by rw [vs_size, vs_size]) (vs_one _ _ _)

theorem zero_root : ∀ w : World, (zeroValue 24).run Try.prog w = .ok (.agg (vs .u8 32 fun _ => 0)) w := (zero_of_info (n := 32) (by kernel_rfl)).1

attribute [local go_sem ↓] sv24_eq lv24_eq ix22_eq slr_eq bd27_eq bs22_eq

theorem ret24s {fn : Func} {R : Ending → World → Prop} {a : Act} {w' : World} (t s : Tmp) (b : Nat) (c : Nat → Int) (ty : TypeId) (v : Value) (h : fn.results = #[.cell t 24, .tmp s]) (hd : a.defers = []) (ht : a.tmps.getD t undef = .pointer (some ⟨b, 0, none⟩)) (hs : a.tmps.getD s undef = v) (hr : w'.heap[b]? = some (.cells (vs .u8 32 c) ty))
    (hR : R (.returned (.tuple #[.agg (vs .u8 32 c), v])) w') : bodyPost Try.prog fn R .ret a w' := by
  refine bodyPost_ret ?_ hd hR
  have hl := loadAt_var (load_row (P := Try.prog) hr 24 _ Try.underlying24 rfl (by rw [vs_size]; kernel_rfl))
  rw [Array.getD_eq_getD_getElem?] at ht hs
  simp [results, h, ht, hs, hl, asAddr]

end Go.Proofs.Ytmbgidfngefniaa

namespace Go.Proofs.Ytmbgidfngefniaa

open Go.RowKit

set_option linter.unusedVariables false

set_option linter.unusedSimpArgs false

attribute [local go_sem ↓] sv24_eq lv24_eq ix22_eq slr_eq bd27_eq bs22_eq

/-- Tree's answer: the root and the error. -/
def okL (n : Int) : Prop := 0 ≤ n ∧ n ≤ 1099511627776

instance (n : Int) : Decidable (okL n) := inferInstanceAs (Decidable (0 ≤ n ∧ n ≤ 1099511627776))

def treeV (f : Nat → Int) (len : Nat) (n : Int) : Nat → Int := if okL n ∧ (len : Int) ≤ n then nd f len (dpt n.toNat) 0 else fun _ => 0

end Go.Proofs.Ytmbgidfngefniaa

