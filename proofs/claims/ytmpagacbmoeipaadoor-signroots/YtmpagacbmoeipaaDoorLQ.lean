/-
  Validators looked at: who is active, sums; lists of numbers that grow.
  What the document's Active, CanSlash, Epoch, Actives, Total, All and Churn answer.
-/
import Derived.Test.YtmpagacbmoeipaaDoorSR
import Derived.Laws.AppendOwnNone

import Derived.BigQuiet

import Derived.Deep.QuietTactic

import Derived.Deep.RegionHeld3

namespace Go.Proofs.YtmpagacbmoeipaaDoor

open Go.RowKit

set_option linter.unusedVariables false

set_option linter.unusedSimpArgs false

set_option maxRecDepth 20000

theorem own_below {w w' : World} {B : Nat} {e : TypeId} {v : Value} {n : Nat} {xs : List Value} (h : w.ownsRow B e 1 v n xs) (hb : Below w.heap.size w w') : w'.ownsRow B e 1 v n xs := by
  refine ⟨h.1, ?_⟩
  rcases h.2 with h | ⟨g, cap, cur, e1, e2, e3, e4⟩
  · exact .inl h
  · exact .inr ⟨g, cap, cur, e1, e2, (hb.block _ (Array.getElem?_eq_some_iff.1 e3).1).trans e3, e4⟩

end Go.Proofs.YtmpagacbmoeipaaDoor

namespace Go.Proofs.YtmpagacbmoeipaaDoor

open Go.RowKit

set_option linter.unusedVariables false

set_option linter.unusedSimpArgs false

set_option maxRecDepth 20000

/-- What is looked at of a state. -/
structure Lk (w : World) (x : VState) : Prop where
  el : Els w x.f11.a x.f11.n 86 (fun i => celL (sValidator (x.f11.z i)))
  nb : x.f11.n ≤ 65536
  ef : ∀ j, j < x.f11.n → 0 ≤ (x.f11.z j).f2 ∧ (x.f11.z j).f2 ≤ 32000000000
  sl : 0 ≤ x.f2 ∧ x.f2 < 1099511627776

theorem Lk.below {w w' : World} {x : VState} (h : Lk w x) (hb : Below w.heap.size w w') : Lk w' x := ⟨h.el.below hb, h.nb, h.ef, h.sl⟩

attribute [local go_sem ↓] lvState_eq svState_eq bdState_eq lvValidator_eq svValidator_eq ixValidator_eq

end Go.Proofs.YtmpagacbmoeipaaDoor
