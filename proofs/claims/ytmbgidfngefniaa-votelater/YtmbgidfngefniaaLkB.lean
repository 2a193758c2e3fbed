/-
  What the document's Active, CanSlash, Epoch, Actives, Total, All and Churn answer.
-/

import Derived.Test.YtmbgidfngefniaaLkA
import Derived.BigQuiet

import Derived.Deep.QuietTactic

import Derived.Deep.RegionHeld3

namespace Go.Proofs.Ytmbgidfngefniaa

open Go.RowKit

set_option linter.unusedVariables false

set_option linter.unusedSimpArgs false

set_option maxRecDepth 20000

/-- What is looked at of a state. -/
structure Lk (w : World) (x : VState) : Prop where
  el : Els w x.f11.a x.f11.n 86 (fun i => celL (sValidator (x.f11.z i)))
  nb : x.f11.n ≤ 65536
  ef : ∀ j, j < x.f11.n → 0 ≤ (x.f11.z j).f2 ∧ (x.f11.z j).f2 ≤ 32000000000
  sl : 0 ≤ x.f2 ∧ x.f2 < 1099511627776

theorem Lk.below {w w' : World} {x : VState} (h : Lk w x) (hb : Below w.heap.size w w') : Lk w' x := ⟨h.el.below hb, h.nb, h.ef, h.sl⟩

attribute [local go_sem ↓] lvState_eq svState_eq bdState_eq lvValidator_eq svValidator_eq ixValidator_eq

set_option maxHeartbeats 1000000 in
theorem repoch_any (x : VState) (w : World) (h0 : 0 ≤ x.f2) (h1 : x.f2 < 1099511627776) :
    Calls Try.prog 27 #[.agg (cel (sState x))] w fun e' w' => e' = .returned (.int .u64 (x.f2 / 4)) ∧ Below w.heap.size w w' := by
  obtain ⟨W0, hW0⟩ : ∃ W, w.alloc (.cells (cel (sState x)) 49) = W := ⟨_, rfl⟩
  have r0 : W0.heap[w.heap.size]? = some (.cells (cel (sState x)) 49) := by rw [← hW0]; exact heap_new rfl
  have hB0 : Below w.heap.size w W0 := by rw [← hW0]; exact (Below.refl _ _).alloc (Nat.le_refl _) _
  have l2 := cS2 r0
  generalize x.f2 = p at *
  have HB := hid hB0
  have HW := hid hW0
  clear hB0 hW0 r0
  go_enter Try.func27, Try.ntmps27
  go_upto_region 1 with fail
  rw [HW.out]
  clear HW
  go_wp2
  go_ret
  exact ⟨ret_int rfl, HB.out⟩

end Go.Proofs.Ytmbgidfngefniaa
