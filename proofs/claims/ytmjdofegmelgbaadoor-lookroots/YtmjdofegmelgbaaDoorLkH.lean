/-
  What LookSums answers, by what the program's functions answer.
-/

import Derived.Test.YtmjdofegmelgbaaDoorLkG
import Derived.Test.YtmjdofegmelgbaaDoorLkA
namespace Go.Proofs.YtmjdofegmelgbaaDoor

open Go.RowKit

set_option linter.unusedVariables false

set_option linter.unusedSimpArgs false

set_option maxRecDepth 20000

attribute [local go_sem ↓] lvState_eq svState_eq bdState_eq lvValidator_eq svValidator_eq ixValidator_eq

/-- What Reward answers, an error too. -/
def rewA (x : VState) (r i : Int) : Int := if i < (x.f11.n : Int) then rwS x r i.toNat else 0

def rewE (x : VState) (i : Int) : Int := if i < (x.f11.n : Int) then 0 else 1

def PChurn : Prop := ∀ (x : VState) (w : World), Lk w x → (∀ j, j < x.f11.n → OkValidator (x.f11.z j)) → Calls Tryd.prog 14 #[.agg (cel (sState x))] w fun e' w' => e' = .returned (.int .u64 (chuS x)) ∧ Below w.heap.size w w'

def PReward : Prop := ∀ (x : VState) (r i : Int) (w : World), Lk w x → (∀ j, j < x.f11.n → OkValidator (x.f11.z j)) → IsRut (allS x) r → 0 ≤ i → Calls Tryd.prog 12 #[.agg (cel (sState x)), .int .u64 i] w fun e' w' => e' = .returned (.tuple #[.int .u64 (rewA x r i), .int .i64 (rewE x i)]) ∧ Below w.heap.size w w'

end Go.Proofs.YtmjdofegmelgbaaDoor
