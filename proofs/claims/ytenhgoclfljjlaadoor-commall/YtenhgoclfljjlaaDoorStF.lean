/-
  The bytes of a state.
-/

import Derived.Test.YtenhgoclfljjlaaDoorStB
import Derived.Test.YtenhgoclfljjlaaDoorStE
import Derived.Test.YtenhgoclfljjlaaDoorBzA
namespace Go.Proofs.YtenhgoclfljjlaaDoor

open Go.RowKit

set_option linter.unusedVariables false

set_option linter.unusedSimpArgs false

set_option maxRecDepth 20000

attribute [local go_sem ↓] bsI_eq

/-- The numbers and bits of a field in memory. -/
theorem seg_na {w : World} {g : Nat} {t : TypeId} {x : VState} (h : w.heap[g]? = some (.cells (cel (sState x)) t)) : Z.Nms .u64 w (some ⟨g, 979, none⟩) 8 x.f14 :=
  .inr ⟨g, 979, rfl, (Array.getElem?_eq_some_iff.1 h).1, fun j hj => by
    rcases (by omega : j = 0 ∨ j = 1 ∨ j = 2 ∨ j = 3 ∨ j = 4 ∨ j = 5 ∨ j = 6 ∨ j = 7) with rfl | rfl | rfl | rfl | rfl | rfl | rfl | rfl
    · exact cS14_0 h
    · exact cS14_1 h
    · exact cS14_2 h
    · exact cS14_3 h
    · exact cS14_4 h
    · exact cS14_5 h
    · exact cS14_6 h
    · exact cS14_7 h⟩

attribute [local go_sem ↓] bsI_eq lvState_eq svState_eq lvFork_eq lvHeader_eq lvEth1_eq lvCheckpoint_eq lvCommittee_eq

end Go.Proofs.YtenhgoclfljjlaaDoor
