/-
  The bytes of a state.
-/

import Derived.Test.YtmbgidfngefniaaStB
import Derived.Test.YtmbgidfngefniaaStE
import Derived.Test.YtmbgidfngefniaaBzA
namespace Go.Proofs.Ytmbgidfngefniaa

open Go.RowKit

set_option linter.unusedVariables false

set_option linter.unusedSimpArgs false

set_option maxRecDepth 20000

def qS (x : VState) : List (Nat × (Nat → Int)) := [(8, nmB x.f0), (32, x.f1), (8, nmB x.f2), (16, ct7 (eFork x.f3)), (112, ct7 (eHeader x.f4)), (256, x.f5), (256, x.f6), (32 * x.f7.n, x.f7.z), (72, ct7 (eEth1 x.f8)), (72 * x.f9.n, eB 72 fun i => ct7 (eEth1 (x.f9.z i))), (8, nmB x.f10), (121 * x.f11.n, eB 121 fun i => ct7 (eValidator (x.f11.z i))), (8 * x.f12.n, eB 8 fun i => nmB (x.f12.z i)), (256, x.f13), (64, eB 8 fun i => nmB (x.f14 i)), (x.f15.n, x.f15.z), (x.f16.n, x.f16.z), (1, fun q => (Z.byt x.f17 4 q : Int)), (40, ct7 (eCheckpoint x.f18)), (40, ct7 (eCheckpoint x.f19)), (40, ct7 (eCheckpoint x.f20)), (8 * x.f21.n, eB 8 fun i => nmB (x.f21.z i)), (432, ct7 (eCommittee x.f22)), (432, ct7 (eCommittee x.f23))]

def nilQ : Nat × (Nat → Int) := (0, fun _ => 0)

def pF (x : VState) (r : Nat) : Nat → Int := ((qS x).getD r nilQ).2



/-- The numbers and bits of a field in memory. -/
theorem seg_na {w : World} {g : Nat} {t : TypeId} {x : VState} (h : w.heap[g]? = some (.cells (cel (sState x)) t)) : Z.Nms .u64 w (some ⟨g, 979, none⟩) 8 x.f14 :=
  .inr ⟨g, 979, rfl, (Array.getElem?_eq_some_iff.1 h).1, fun j hj => by
    rcases (by omega : j = 0 ∨ j = 1 ∨ j = 2 ∨ j = 3 ∨ j = 4 ∨ j = 5 ∨ j = 6 ∨ j = 7) with rfl | rfl | rfl | rfl | rfl | rfl | rfl | rfl
    · exact cS14_0 h
    · exact cS14_1 h
    · exact cS14_2 h
    · exact cS14_3 h
    · exact cS14_4 h
    · exact cS14_5 h
    · exact cS14_6 h
    · exact cS14_7 h⟩

attribute [local go_sem ↓] lvState_eq svState_eq lvFork_eq lvHeader_eq lvEth1_eq lvCheckpoint_eq lvCommittee_eq

end Go.Proofs.Ytmbgidfngefniaa
