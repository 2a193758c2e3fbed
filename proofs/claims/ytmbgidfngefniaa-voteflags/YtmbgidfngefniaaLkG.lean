/-
  What LookActives answers, by what the program's functions answer.
-/

import Derived.Test.YtmbgidfngefniaaLkB
import Derived.Test.YtmbgidfngefniaaLkA
import Derived.Test.YtmbgidfngefniaaStY
namespace Go.Proofs.Ytmbgidfngefniaa

open Go.RowKit

set_option linter.unusedVariables false

set_option linter.unusedSimpArgs false

set_option maxRecDepth 20000

attribute [local go_sem ↓] lvState_eq svState_eq bdState_eq lvValidator_eq svValidator_eq ixValidator_eq

theorem RtO.lk {x : VState} (h : RtO x) {w : World} (hx : OkState x) (hw : InW w x) : Lk w x := by
  refine ⟨hw.i11, h.c0, fun j hj => ?_, hx.o2.1, h.c7⟩
  have hv := h.cv j hj
  have ho := (hx.o11 j hj).2.2.1
  unfold vldB at hv
  simp only [Bool.and_eq_true, decide_eq_true_eq] at hv
  exact ⟨ho.1, hv.2.1⟩

theorem OkState.r' {x : VState} (h : OkState x) : OkR x := ⟨h.o2, h.o11, h.o12, h.o14, h.o21⟩

theorem InW.r' {w : World} {x : VState} (h : InW w x) : InR w x := ⟨h.i11, h.i12, h.i21⟩

end Go.Proofs.Ytmbgidfngefniaa
