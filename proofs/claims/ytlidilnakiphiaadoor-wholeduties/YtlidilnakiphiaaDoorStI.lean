/-
  The fields of a state whose bytes may be refused, read.
-/

import Derived.Test.YtlidilnakiphiaaDoorStH
namespace Go.Proofs.YtlidilnakiphiaaDoor

open Go.RowKit

set_option linter.unusedVariables false

set_option linter.unusedSimpArgs false

set_option maxRecDepth 20000

/-- The state of nothing but zeros. -/
def oState : VState := ⟨0, fun _ => 0, 0, oFork, oHeader, fun _ => 0, fun _ => 0, ⟨none, 0, 0, fun _ => 0⟩, oEth1, ⟨none, 0, 0, fun _ => oEth1⟩, 0, ⟨none, 0, 0, fun _ => oValidator⟩, ⟨none, 0, 0, fun _ => 0⟩, fun _ => 0, fun _ => 0, ⟨none, 0, 0, fun _ => 0⟩, ⟨none, 0, 0, fun _ => 0⟩, fun _ => false, oCheckpoint, oCheckpoint, oCheckpoint, ⟨none, 0, 0, fun _ => 0⟩, oCommittee, oCommittee⟩

theorem zeroState (W : World) : (zeroValue 49).run Tryd.prog W = .ok (.agg (cel (sState oState))) W := by kernel_rfl

theorem some_lt {X : World} {r : Nat} {o : Obj} (h : X.heap[r]? = some o) : r < X.heap.size := (Array.getElem?_eq_some_iff.1 h).1

attribute [local go_sem ↓] lvState_eq svState_eq bdState_eq

end Go.Proofs.YtlidilnakiphiaaDoor
