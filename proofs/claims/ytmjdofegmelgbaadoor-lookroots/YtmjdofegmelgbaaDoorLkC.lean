/-
  What the document's All and Churn answer.
-/

import Derived.Test.YtmjdofegmelgbaaDoorLkB
namespace Go.Proofs.YtmjdofegmelgbaaDoor

open Go.RowKit

set_option linter.unusedVariables false

set_option linter.unusedSimpArgs false

set_option maxRecDepth 20000

attribute [local go_sem ↓] lvState_eq svState_eq bdState_eq lvValidator_eq svValidator_eq ixValidator_eq

/-- The actives of a state's epoch; their sum; how many may come. -/
def acS (x : VState) : List Int := acL x.f11.z (x.f2 / 4) x.f11.n

def allS (x : VState) : Int := lst (ttl x.f11.z x.f11.n (fun j => (acS x).getD j 0) (acS x).length)

def chuS (x : VState) : Int := if ((acS x).length : Int) / 32 < 2 then 2 else ((acS x).length : Int) / 32

theorem acS_bd (x : VState) (hn : x.f11.n ≤ 65536) : ∀ j, j < (acS x).length → 0 ≤ (acS x).getD j 0 ∧ (acS x).getD j 0 < 18446744073709551616 := fun j hj => by
  have := acL_bd x.f11.z (x.f2 / 4) x.f11.n ((acS x).getD j 0) (by rw [List.getD_eq_getElem?_getD, List.getElem?_eq_getElem hj]; exact List.getElem_mem hj)
  omega

theorem allS_bd (x : VState) (hn : x.f11.n ≤ 65536) (hz : ∀ j, j < x.f11.n → 0 ≤ (x.f11.z j).f2 ∧ (x.f11.z j).f2 ≤ 32000000000) : 1000000000 ≤ allS x ∧ allS x ≤ 2097152000000000 := by
  have h1 := acL_len x.f11.z (x.f2 / 4) x.f11.n
  have h2 := ttl_bd x.f11.z x.f11.n (fun j => (acS x).getD j 0) hz (acS x).length (fun j hj => (acS_bd x hn j hj).1)
  have h3 : (acS x).length ≤ 65536 := Nat.le_trans h1 hn
  unfold allS lst
  split <;> omega

end Go.Proofs.YtmjdofegmelgbaaDoor
