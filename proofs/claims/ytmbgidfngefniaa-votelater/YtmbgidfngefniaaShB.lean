/-
  Places in a region that several orders share.
-/

import Derived.Test.YtmbgidfngefniaaHaA
namespace Go.Proofs.Ytmbgidfngefniaa

open Go.RowKit

set_option linter.unusedVariables false

/-- All that stood in W stands in V. -/
abbrev Up (W V : World) : Prop := Below W.heap.size W V

theorem upT {W V X : World} (h : Up W V) (k : Up V X) : Up W X := h.trans (k.mono h.size)

theorem upR {V X : World} {y : Nat} {o : Obj} (k : Up V X) (r : V.heap[y]? = some o) : X.heap[y]? = some o := (k.block _ (Array.getElem?_eq_some_iff.1 r).1).trans r

theorem upN2 {W V : World} (h : Up W V) (o : Obj) : ∃ X y, V.alloc o = X ∧ V.heap.size = y ∧ X.heap[y]? = some o ∧ Up V X ∧ W.heap.size ≤ y := ⟨_, _, rfl, rfl, heap_new rfl, (Below.refl _ _).alloc (Nat.le_refl _) _, h.size⟩

end Go.Proofs.Ytmbgidfngefniaa
