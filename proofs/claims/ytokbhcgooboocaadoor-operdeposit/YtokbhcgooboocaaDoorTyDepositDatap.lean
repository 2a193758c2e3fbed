/-
  Values read and bytes, both Reads, the argument opened.
-/
import Derived.Test.YtokbhcgooboocaaDoorCoAp
import Derived.Test.YtokbhcgooboocaaDoorCoBp
import Derived.Test.YtokbhcgooboocaaDoorCoCp
import Derived.Test.YtokbhcgooboocaaDoorThDepositDatap
import Derived.Test.YtokbhcgooboocaaDoorTrDepositDatap
namespace Go.Proofs.YtokbhcgooboocaaDoor
open Go.RowKit
set_option linter.unusedVariables false
set_option linter.unusedSimpArgs false

theorem okpDepositData (m : Nat → Int) (hm : ∀ j, 0 ≤ m j ∧ m j < 256) : OkDepositData (pDepositData m) := ⟨fun j _ => hm (0 + j), fun j _ => hm (48 + j), rdN_bd (f := fun q => m (80 + q)) (fun j _ => hm (80 + j)), fun j _ => hm (88 + j)⟩

theorem epDepositData (m : Nat → Int) (hm : ∀ j, 0 ≤ m j ∧ m j < 256) (q : Nat) (hq : q < 184) : ct7 (eDepositData (pDepositData m)) q = m q := by
  simp only [eDepositData, pDepositData, ct7]
  by_cases h0 : q < 48
  · rw [if_pos h0]; exact congrArg m (by omega)
  rw [if_neg h0]
  by_cases h1 : q - 48 < 32
  · rw [if_pos h1]; exact congrArg m (by omega)
  rw [if_neg h1]
  by_cases h2 : q - 48 - 32 < 8
  · rw [if_pos h2, nm_rd (fun q => m (80 + q)) (fun j _ => hm (80 + j)) _ h2]; exact congrArg m (by omega)
  rw [if_neg h2]
  by_cases h3 : q - 48 - 32 - 8 < 96
  · rw [if_pos h3]; exact congrArg m (by omega)
  rw [if_neg h3]
  omega

end Go.Proofs.YtokbhcgooboocaaDoor
namespace Go.Proofs.YtokbhcgooboocaaDoor
open Go.RowKit
set_option linter.unusedVariables false
set_option linter.unusedSimpArgs false

end Go.Proofs.YtokbhcgooboocaaDoor
namespace Go.Proofs.YtokbhcgooboocaaDoor
open Go.RowKit
set_option linter.unusedVariables false
set_option linter.unusedSimpArgs false

theorem okoDepositData : OkDepositData oDepositData := ⟨fun j hj => bd_zero j _ hj, fun j hj => bd_zero j _ hj, ⟨by decide, by decide⟩, fun j hj => bd_zero j _ hj⟩

theorem ebdDepositData (x : VDepositData) (hx : OkDepositData x) (q : Nat) : 0 ≤ ct7 (eDepositData x) q ∧ ct7 (eDepositData x) q < 256 := by
  obtain ⟨h0, h1, h2, h3⟩ := hx
  simp only [eDepositData, ct7]
  by_cases c0 : q < 48
  · rw [if_pos c0]; exact h0 _ c0
  rw [if_neg c0]
  by_cases c1 : q - 48 < 32
  · rw [if_pos c1]; exact h1 _ c1
  rw [if_neg c1]
  by_cases c2 : q - 48 - 32 < 8
  · rw [if_pos c2]; exact nmB_bd _ _
  rw [if_neg c2]
  by_cases c3 : q - 48 - 32 - 8 < 96
  · rw [if_pos c3]; exact h3 _ c3
  rw [if_neg c3]
  exact ⟨Int.le_refl _, by decide⟩

end Go.Proofs.YtokbhcgooboocaaDoor
