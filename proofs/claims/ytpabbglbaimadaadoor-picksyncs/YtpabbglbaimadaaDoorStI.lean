/-
  The fields of a state whose bytes may be refused, read.
-/

import Derived.Test.YtpabbglbaimadaaDoorStH
namespace Go.Proofs.YtpabbglbaimadaaDoor

open Go.RowKit

set_option linter.unusedVariables false

set_option linter.unusedSimpArgs false

set_option maxRecDepth 20000

/-- The state of nothing but zeros. -/
def oState : VState := ⟨0, fun _ => 0, 0, oFork, oHeader, fun _ => 0, fun _ => 0, ⟨none, 0, 0, fun _ => 0⟩, oEth1, ⟨none, 0, 0, fun _ => oEth1⟩, 0, ⟨none, 0, 0, fun _ => oValidator⟩, ⟨none, 0, 0, fun _ => 0⟩, fun _ => 0, fun _ => 0, ⟨none, 0, 0, fun _ => 0⟩, ⟨none, 0, 0, fun _ => 0⟩, fun _ => false, oCheckpoint, oCheckpoint, oCheckpoint, ⟨none, 0, 0, fun _ => 0⟩, oCommittee, oCommittee⟩

theorem zeroState (W : World) : (zeroValue 49).run Tryd.prog W = .ok (.agg (cel (sState oState))) W := by kernel_rfl

/-- What stands while a state is read: the result's block, the state's own. -/
def RI (w : World) (r y : Nat) (x : VState) (X : World) : Prop := Below w.heap.size w X ∧ X.heap[r]? = some (.cells (cel (sState oState)) 49) ∧ X.heap[y]? = some (.cells (cel (sState x)) 49)

theorem some_lt {X : World} {r : Nat} {o : Obj} (h : X.heap[r]? = some o) : r < X.heap.size := (Array.getElem?_eq_some_iff.1 h).1

theorem some_cell {X : World} {y i : Nat} {x : VState} (h : X.heap[y]? = some (.cells (cel (sState x)) 49)) (hi : i < 1957) : ∃ v, X.cell? ⟨y, i, none⟩ = some v := ⟨_, (row_cell h i).trans (Array.getElem?_eq_getElem (by rw [cel_size, slState]; exact hi))⟩

theorem RI.below {w X X' : World} {r y : Nat} {x : VState} (h : RI w r y x X) (hb : Below X.heap.size X X') : RI w r y x X' :=
  ⟨h.1.trans (hb.mono h.1.size), (hb.block r (some_lt h.2.1)).trans h.2.1, (hb.block y (some_lt h.2.2)).trans h.2.2⟩

theorem RI.kept {w X X' : World} {r y : Nat} {x x' : VState} (h : RI w r y x X) (hr : r ≠ y) (hy : w.heap.size ≤ y) (hk : Kept y X X') (hn : X'.heap[y]? = some (.cells (cel (sState x')) 49)) : RI w r y x' X' :=
  ⟨h.1.trans (hk.below hy h.1.size), (hk.block r (some_lt h.2.1) hr).trans h.2.1, hn⟩

theorem RI.set {w X : World} {r y : Nat} {x x' : VState} (h : RI w r y x X) (hr : r ≠ y) (hy : w.heap.size ≤ y) (i : Nat) (v : Value) (he : (cel (sState x)).setIfInBounds i v = cel (sState x')) : RI w r y x' (X.setCell ⟨y, i, none⟩ v) :=
  h.kept hr hy ((Kept.refl y X).setCell i v) ((row_set h.2.2 i v).trans (congrArg (fun c => some (Obj.cells c 49)) he))

theorem RI.row {w X : World} {r y : Nat} {x x' : VState} (h : RI w r y x X) (hr : r ≠ y) (hy : w.heap.size ≤ y) : RI w r y x' (X.setRow y (cel (sState x'))) :=
  h.kept hr hy ((Kept.refl y X).setRow _) (setRow_at h.2.2)

attribute [local go_sem ↓] lvState_eq svState_eq bdState_eq

end Go.Proofs.YtpabbglbaimadaaDoor
