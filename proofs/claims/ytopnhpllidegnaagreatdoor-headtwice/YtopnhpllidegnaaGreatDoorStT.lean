/- A part. -/
import Derived.Test.YtopnhpllidegnaaGreatDoorStS
import Derived.BigRegion
import Derived.Laws.BitsAllLaws
namespace Go.Proofs.YtopnhpllidegnaaGreatDoor
open Go.RowKit
set_option linter.unusedVariables false
set_option linter.unusedSimpArgs false
set_option maxRecDepth 20000
theorem fitn {x : VState} (h : fitB x = true) : x.f7.n ≤ 1024 ∧ x.f9.n ≤ 8 ∧ x.f11.n ≤ 65536 ∧ x.f12.n ≤ 65536 ∧ x.f15.n ≤ 65536 ∧ x.f16.n ≤ 65536 ∧ x.f21.n ≤ 65536 := by
 unfold fitB at h
 simp only [Bool.and_eq_true, decide_eq_true_eq] at h
 omega
theorem tL_lt {x : VState} (h : fitB x = true) : tL x < 4294967296 := by
 have := fitn h
 rw [tL_is]
 omega
attribute [local go_sem ↓] lvState_eq svState_eq bd27_eq bs22_eq
end Go.Proofs.YtopnhpllidegnaaGreatDoor
