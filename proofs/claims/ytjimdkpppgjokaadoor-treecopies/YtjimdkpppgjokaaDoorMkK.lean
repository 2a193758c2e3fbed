/-
  The fixed answers that every statement of layer 5 asks first are right.
-/
import Derived.Test.YtjimdkpppgjokaaDoorMkJ
namespace Go.Proofs.YtjimdkpppgjokaaDoor
open Go.RowKit
set_option linter.unusedVariables false
set_option linter.unusedSimpArgs false

attribute [local go_sem ↓] sv24_eq lv24_eq ix22_eq slr_eq lv48_eq sv48_eq bd48_eq bd27_eq bs22_eq sl22_eq mk22_eq

theorem zr1_0 : zr 1 0 = 245 := by
  show shaV KW HW (cat (zr 0) (zr 0)) 64 0 = 245
  rw [shaV_congr (m' := zM) (fun i _ => by unfold cat zr zM; rw [ite_self]) 0 (by omega)]
  exact zero_0
theorem zeroV1 : zeroV 1 = zr 1 := by
  unfold zeroV
  rw [if_pos (by decide)]
  rfl
theorem treeV2 : treeV (fun _ => 0) 0 2 = zr 1 := by
  unfold treeV
  rw [if_pos ⟨⟨by decide, by decide⟩, by decide⟩]
  have : dpt (Int.toNat 2) = 1 := by decide
  rw [this]
  exact nd_zero _ 0 1 0 (by decide)
theorem holds1 (c : Nat → Int) (hc : c = zr 1) : holdsV (fun _ => 0) (fun _ => 0) 1 0 c = true := by
  subst hc
  unfold holdsV
  rw [decide_eq_true (by omega), Bool.true_and]
  have : upV (fun _ => 0) (fun _ => 0) 0 1 = zr 1 := by
    show (if 0 / 2 ^ 0 % 2 = 1 then _ else _) = _
    rw [if_neg (by decide)]
    rfl
  rw [this]
  exact eqR_self _
theorem rts_row {w : World} {g n : Nat} {f : Nat → Int} {t : TypeId} (h : w.heap[g]? = some (.cells (vs .u8 (32 * n) f) t)) : Rts w (some ⟨g, 0, none⟩) n n f :=
  .inr (.inr ⟨g, 0, rfl, Nat.le_refl _, (Array.getElem?_eq_some_iff.1 h).1, fun j hj => by rw [Nat.zero_add]; exact row_int h j hj⟩)

end Go.Proofs.YtjimdkpppgjokaaDoor
