/-
  Whether a state is right.
-/

import Derived.Test.YtenhgoclfljjlaaDoorStC
import Derived.Test.YtenhgoclfljjlaaDoorStE
import Derived.Test.YtenhgoclfljjlaaDoorStF
namespace Go.Proofs.YtenhgoclfljjlaaDoor

open Go.RowKit

set_option linter.unusedVariables false

set_option linter.unusedSimpArgs false

set_option maxRecDepth 20000

attribute [local go_sem ↓] lvState_eq svState_eq bdState_eq lvValidator_eq svValidator_eq ixValidator_eq

def vldB (v : VValidator) : Bool := decide (v.f2 % 1000000000 = 0) && (decide (v.f2 ≤ 32000000000) && (epB v.f4 && (epB v.f5 && (epB v.f6 && epB v.f7))))

def valsB (z : Nat → VValidator) (n : Nat) : Bool := (List.range n).all fun i => vldB (z i)

/-- What Right looks at. -/
structure OkR (x : VState) : Prop where
  o2 : 0 ≤ x.f2 ∧ x.f2 < 18446744073709551616
  o11 : ∀ j, j < x.f11.n → OkValidator (x.f11.z j)
  o12 : ∀ j, j < x.f12.n → 0 ≤ x.f12.z j ∧ x.f12.z j < 18446744073709551616
  o14 : ∀ j, j < 8 → 0 ≤ x.f14 j ∧ x.f14 j < 18446744073709551616
  o21 : ∀ j, j < x.f21.n → 0 ≤ x.f21.z j ∧ x.f21.z j < 18446744073709551616

structure InR (w : World) (x : VState) : Prop where
  i11 : Els w x.f11.a x.f11.n 86 (fun i => celL (sValidator (x.f11.z i)))
  i12 : Z.Nms .u64 w x.f12.a x.f12.n x.f12.z
  i21 : Z.Nms .u64 w x.f21.a x.f21.n x.f21.z

theorem InR.below {w w' : World} {x : VState} (h : InR w x) (hb : Below w.heap.size w w') : InR w' x := ⟨h.i11.below hb, h.i12.below hb, h.i21.below hb⟩

theorem InW.r {w : World} {x : VState} (h : InW w x) : InR w x := ⟨h.i11, h.i12, h.i21⟩

theorem OkState.r {x : VState} (h : OkState x) : OkR x := ⟨h.o2, h.o11, h.o12, h.o14, h.o21⟩

/-- Whether a state is right. -/
def rightB (x : VState) : Bool := fitB x && (lensB x && (timB x && (decide (x.f10 < 1099511627776) && (valsB x.f11.z x.f11.n && (scoB x.f21.z x.f21.n && (togB x.f12.z x.f12.n 144115188075855872 && togB x.f14 8 144115188075855872))))))

end Go.Proofs.YtenhgoclfljjlaaDoor
