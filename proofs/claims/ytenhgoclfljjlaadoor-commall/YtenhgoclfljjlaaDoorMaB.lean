/-
  What rise makes of a row.
  What slices.Clone, lowest, isLimit and depthOf answer.
  What lowest makes; what Zero and Tree answer.
  What Tree answers.
-/
import Derived.Test.YtenhgoclfljjlaaDoorMaA
import Derived.Test.YtenhgoclfljjlaaDoorShelf
import Derived.Deep.RegionHeld3
import Derived.Laws.AppendOwnNone
namespace Go.Proofs.YtenhgoclfljjlaaDoor

open Go.RowKit

set_option linter.unusedVariables false

set_option linter.unusedSimpArgs false

attribute [local go_sem ↓] sv24_eq lv24_eq ix22_eq slr_eq

theorem Sh.low {w w' : World} {B : Nat} (h : Sh w) (hB : 3 ≤ B) (hb : Below B w w') : Sh w' :=
  ⟨⟨Nat.lt_of_lt_of_le h.1.1 hb.size, fun i hi => (below_cell hb (by omega)).trans (h.1.2 i hi)⟩, ⟨Nat.lt_of_lt_of_le h.2.1 hb.size, fun i hi => (below_cell hb (by omega)).trans (h.2.2 i hi)⟩⟩

end Go.Proofs.YtenhgoclfljjlaaDoor

namespace Go.Proofs.YtenhgoclfljjlaaDoor

open Go.RowKit

set_option linter.unusedVariables false

set_option linter.unusedSimpArgs false

attribute [local go_sem ↓] sv24_eq lv24_eq ix22_eq slr_eq

/- append of roots onto a row of the own -/

end Go.Proofs.YtenhgoclfljjlaaDoor

namespace Go.Proofs.YtenhgoclfljjlaaDoor

open Go.RowKit

set_option linter.unusedVariables false

set_option linter.unusedSimpArgs false

def bd27 (ps : Array (Nat × Value)) : Sem Value := Instr.build 24 ps

theorem bd27_eq (ps : Array (Nat × Value)) : Instr.build 24 ps = bd27 ps := rfl

def bs22 (n : Nat) (ps : Array (Nat × Value)) : Sem Value := Instr.buildSlice 32 n ps

theorem bs22_eq (n : Nat) (ps : Array (Nat × Value)) : Instr.buildSlice 32 n ps = bs22 n ps := rfl

theorem sv24_newv (W : World) (o c : Nat → Int) : (sv24 ⟨W.heap.size, 0, none⟩ (.agg (vs .u8 32 c))).run Tryd.prog (W.alloc (.cells (vs .u8 32 o) 24)) = .ok () (W.alloc (.cells (vs .u8 32 c) 24)) :=
  run_storeVar_new W 24 _ _ (by rw [vs_size]; kernel_rfl) (by rw [vs_size, vs_size]) (vs_one _ _ _)

theorem zero_root : ∀ w : World, (zeroValue 24).run Tryd.prog w = .ok (.agg (vs .u8 32 fun _ => 0)) w := (zero_of_info (n := 32) (by kernel_rfl)).1

attribute [local go_sem ↓] sv24_eq lv24_eq ix22_eq slr_eq bd27_eq bs22_eq

end Go.Proofs.YtenhgoclfljjlaaDoor

namespace Go.Proofs.YtenhgoclfljjlaaDoor

open Go.RowKit

set_option linter.unusedVariables false

set_option linter.unusedSimpArgs false

attribute [local go_sem ↓] sv24_eq lv24_eq ix22_eq slr_eq bd27_eq bs22_eq

/-- Tree's answer: the root and the error. -/
def okL (n : Int) : Prop := 0 ≤ n ∧ n ≤ 1099511627776

instance (n : Int) : Decidable (okL n) := inferInstanceAs (Decidable (0 ≤ n ∧ n ≤ 1099511627776))

def treeV (f : Nat → Int) (len : Nat) (n : Int) : Nat → Int := if okL n ∧ (len : Int) ≤ n then nd f len (dpt n.toNat) 0 else fun _ => 0

end Go.Proofs.YtenhgoclfljjlaaDoor
