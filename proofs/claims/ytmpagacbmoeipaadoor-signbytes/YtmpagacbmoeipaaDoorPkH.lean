/-
  What the reference's Next answers.
-/

import Derived.Test.YtmpagacbmoeipaaDoorPkB
import Derived.Test.YtmpagacbmoeipaaDoorPkG
import Derived.Test.YtmpagacbmoeipaaDoorPkE
namespace Go.Proofs.YtmpagacbmoeipaaDoor

open Go.RowKit

set_option linter.unusedVariables false

set_option linter.unusedSimpArgs false

set_option maxRecDepth 20000

theorem lvKy_mid {w : World} {b o : Nat} {c : Nat → Int} (h : ∀ j, j < 48 → w.cell? ⟨b, o + j, none⟩ = some (.int .u8 (c j))) : (lvKy ⟨b, o, none⟩).run Tryd.prog w = .ok (.agg (vs .u8 48 c)) w := by
  have hr : w.rangeAt b o ((List.range 48).map fun i => Value.int .u8 (c i)) := by
    intro j v hj
    have hlt : j < 48 := by
      have := (List.getElem?_eq_some_iff.1 hj).1
      simpa using this
    rw [h j hlt]
    simp [hlt] at hj
    rw [hj]
  exact loadAt_var (run_loadAt_mid w b o 44 _ _ hr Tryd.underlying44 rfl (by rw [List.length_map, List.length_range]; kernel_rfl))

def bdC15 (ps : Array (Nat × Value)) : Sem Value := Instr.build 47 ps

theorem bdC15_eq (ps : Array (Nat × Value)) : Instr.build 47 ps = bdC15 ps := rfl

def ix45 (x i : Value) : Sem Value := Instr.indexAt 45 x i

theorem ix45_eq (x i : Value) : Instr.indexAt 45 x i = ix45 x i := rfl

theorem below_cells {B b : Nat} {w0 w : World} (hb : Below B w0 w) (hB : B ≤ b) : ∀ (l : List Value) (o : Nat), Below B w0 (w.setCells b o l) := by
  intro l
  induction l generalizing w with
  | nil => exact fun o => hb
  | cons v l ih => exact fun o => ih (hb.setCell (p := ⟨b, o, none⟩) hB v) (o + 1)

attribute [local go_sem ↓] lvState_eq svState_eq bdState_eq lvValidator_eq svValidator_eq ixValidator_eq lvCommittee_eq svCommittee_eq bdC15_eq ixKy_eq lvKy_eq svKy_eq ix45_eq

end Go.Proofs.YtmpagacbmoeipaaDoor
