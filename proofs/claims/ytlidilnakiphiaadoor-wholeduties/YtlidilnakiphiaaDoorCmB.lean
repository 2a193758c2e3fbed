/-
  What the reference's Count and Of answer.
-/

import Derived.Test.YtlidilnakiphiaaDoorCmA
import Derived.Test.YtlidilnakiphiaaDoorVR
import Derived.Test.YtlidilnakiphiaaDoorLkM
namespace Go.Proofs.YtlidilnakiphiaaDoor

open Go.RowKit

set_option linter.unusedVariables false

set_option linter.unusedSimpArgs false

set_option maxRecDepth 20000

attribute [local go_sem ↓] lvState_eq svState_eq bdState_eq lvValidator_eq svValidator_eq ixValidator_eq sv24_eq lv24_eq

/-- The actives of an epoch. -/
def acE (x : VState) (e : Int) : List Int := acL x.f11.z e x.f11.n

theorem acE_len {x : VState} {e : Int} (h : x.f11.n ≤ 65536) : (acE x e).length ≤ 65536 := Nat.le_trans (acL_len _ _ _) h

/-- What an answered list of a committee is. -/
def OfA (x : VState) (sl ix : Int) (w : World) (e' : Ending) (w' : World) : Prop :=
  ∃ a c, e' = .returned (.tuple #[.slice a (cmN (acE x (sl / 4)).length sl ix) c, .int .i64 (cmE (acE x (sl / 4)).length ix)]) ∧ N64 w' a (cmN (acE x (sl / 4)).length sl ix) (cmF (acE x (sl / 4)) (seedV x (sl / 4) 1) sl ix) ∧ Below w.heap.size w w'

theorem seedV_bd (x : VState) (e k : Int) (j : Nat) : 0 ≤ seedV x e k j ∧ seedV x e k j < 256 := shaV_bd ..

end Go.Proofs.YtlidilnakiphiaaDoor
