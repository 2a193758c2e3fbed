/-
  The reference's Done, Leave and Slash.
-/

import Derived.Test.YtlplmdhlelgihaaGreatDoorQM
import Derived.Test.YtlplmdhlelgihaaGreatDoorStY
import Derived.Test.YtlplmdhlelgihaaGreatDoorQO
namespace Go.Proofs.YtlplmdhlelgihaaGreatDoor

open Go.RowKit

set_option linter.unusedVariables false

set_option linter.unusedSimpArgs false

set_option maxRecDepth 20000

/-- A state that was answered, if it is right. -/
def dnE (x : VState) (e : Int) : Int := if e = 0 then (if rightB x = true then 0 else 2) else e

def dnS (x : VState) (e : Int) : VState := if dnE x e = 0 then x else oState

theorem BK.give {w V : World} {y b : Nat} {Y : VState} {C : Array Value} (h : BK w y V Y) (r : V.heap[b]? = some (.cells C 49)) (c : Array Value) : Res w.heap.size (V.setRow b c) Y Y := by
  have hk : Kept b V (V.setRow b c) := (Kept.refl b V).setRow c
  have cp : CpdF w.heap.size (V.setRow b c) Y := ⟨own_keptB h.cpd.o7 hk (own_ne h.cpd.o7 r (by decide)), own_keptB h.cpd.o9 hk (own_ne h.cpd.o9 r (by decide)), own_keptB h.cpd.o11 hk (own_ne h.cpd.o11 r (by decide)), own_keptB h.cpd.o12 hk (own_ne h.cpd.o12 r (by decide)), own_keptB h.cpd.o15 hk (own_ne h.cpd.o15 r (by decide)), own_keptB h.cpd.o16 hk (own_ne h.cpd.o16 r (by decide)), own_keptB h.cpd.o21 hk (own_ne h.cpd.o21 r (by decide)), h.cpd.d15, h.cpd.d12⟩
  exact ⟨.refl _, ⟨own_rtF cp.o7, own_els cp.o9 (fun i => by rw [celL_len]; rfl), own_els cp.o11 (fun i => by rw [celL_len]; rfl), own_nms cp.o12, own_byF cp.o15, own_byF cp.o16, own_nms cp.o21⟩, cp.nil, cp.nw⟩

attribute [local go_sem ↓] lvState_eq svState_eq bdState_eq

end Go.Proofs.YtlplmdhlelgihaaGreatDoor
