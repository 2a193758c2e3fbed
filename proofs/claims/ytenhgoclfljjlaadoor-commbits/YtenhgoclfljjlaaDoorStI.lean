/-
  The fields of a state whose bytes may be refused, read.
-/

import Derived.Test.YtenhgoclfljjlaaDoorStH
namespace Go.Proofs.YtenhgoclfljjlaaDoor

open Go.RowKit

set_option linter.unusedVariables false

set_option linter.unusedSimpArgs false

set_option maxRecDepth 20000

/-- The state of nothing but zeros. -/
def oState : VState := ⟨0, fun _ => 0, 0, oFork, oHeader, fun _ => 0, fun _ => 0, ⟨none, 0, 0, fun _ => 0⟩, oEth1, ⟨none, 0, 0, fun _ => oEth1⟩, 0, ⟨none, 0, 0, fun _ => oValidator⟩, ⟨none, 0, 0, fun _ => 0⟩, fun _ => 0, fun _ => 0, ⟨none, 0, 0, fun _ => 0⟩, ⟨none, 0, 0, fun _ => 0⟩, fun _ => false, oCheckpoint, oCheckpoint, oCheckpoint, ⟨none, 0, 0, fun _ => 0⟩, oCommittee, oCommittee⟩

theorem zeroState (W : World) : (zeroValue 49).run Tryd.prog W = .ok (.agg (cel (sState oState))) W := by kernel_rfl

theorem some_lt {X : World} {r : Nat} {o : Obj} (h : X.heap[r]? = some o) : r < X.heap.size := (Array.getElem?_eq_some_iff.1 h).1

theorem some_cell {X : World} {y i : Nat} {x : VState} (h : X.heap[y]? = some (.cells (cel (sState x)) 49)) (hi : i < 1957) : ∃ v, X.cell? ⟨y, i, none⟩ = some v := ⟨_, (row_cell h i).trans (Array.getElem?_eq_getElem (by rw [cel_size, slState]; exact hi))⟩

attribute [local go_sem ↓] lvState_eq svState_eq bdState_eq

end Go.Proofs.YtenhgoclfljjlaaDoor
