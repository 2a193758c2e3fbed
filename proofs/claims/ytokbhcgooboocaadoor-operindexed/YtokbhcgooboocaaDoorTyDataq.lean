/-
  Values read and bytes, both Reads, the argument opened.
-/
import Derived.Test.YtokbhcgooboocaaDoorCoAq
import Derived.Test.YtokbhcgooboocaaDoorCoBq
import Derived.Test.YtokbhcgooboocaaDoorCoCq
import Derived.Test.YtokbhcgooboocaaDoorThDataq
import Derived.Test.YtokbhcgooboocaaDoorTrDataq
import Derived.Test.YtokbhcgooboocaaDoorTyCheckpointq
namespace Go.Proofs.YtokbhcgooboocaaDoor
open Go.RowKit
set_option linter.unusedVariables false
set_option linter.unusedSimpArgs false

theorem okpData (m : Nat → Int) (hm : ∀ j, 0 ≤ m j ∧ m j < 256) : OkData (pData m) := ⟨rdN_bd (f := fun q => m (0 + q)) (fun j _ => hm (0 + j)), rdN_bd (f := fun q => m (8 + q)) (fun j _ => hm (8 + j)), fun j _ => hm (16 + j), okpCheckpoint (fun q => m (48 + q)) (fun j => hm (48 + j)), okpCheckpoint (fun q => m (88 + q)) (fun j => hm (88 + j))⟩

theorem epData (m : Nat → Int) (hm : ∀ j, 0 ≤ m j ∧ m j < 256) (q : Nat) (hq : q < 128) : ct7 (eData (pData m)) q = m q := by
  unfold eData pData
  rw [show ∀ (p : Nat × (Nat → Int)) r q, ct7 (p :: r) q = if q < p.1 then p.2 q else ct7 r (q - p.1) from fun _ _ _ => rfl]
  by_cases h0 : q < 8
  · rw [if_pos h0]; exact (nm_rd (fun q => m (0 + q)) (fun j _ => hm (0 + j)) _ h0).trans (congrArg m (by omega))
  rw [if_neg h0]
  rw [show ∀ (p : Nat × (Nat → Int)) r q, ct7 (p :: r) q = if q < p.1 then p.2 q else ct7 r (q - p.1) from fun _ _ _ => rfl]
  by_cases h1 : q - 8 < 8
  · rw [if_pos h1]; exact (nm_rd (fun q => m (8 + q)) (fun j _ => hm (8 + j)) _ h1).trans (congrArg m (by omega))
  rw [if_neg h1]
  rw [show ∀ (p : Nat × (Nat → Int)) r q, ct7 (p :: r) q = if q < p.1 then p.2 q else ct7 r (q - p.1) from fun _ _ _ => rfl]
  by_cases h2 : q - 8 - 8 < 32
  · rw [if_pos h2]; exact congrArg m (by omega)
  rw [if_neg h2]
  rw [show ∀ (p : Nat × (Nat → Int)) r q, ct7 (p :: r) q = if q < p.1 then p.2 q else ct7 r (q - p.1) from fun _ _ _ => rfl]
  by_cases h3 : q - 8 - 8 - 32 < 40
  · rw [if_pos h3]; exact (epCheckpoint (fun q => m (48 + q)) (fun j => hm (48 + j)) _ h3).trans (congrArg m (by omega))
  rw [if_neg h3]
  rw [show ∀ (p : Nat × (Nat → Int)) r q, ct7 (p :: r) q = if q < p.1 then p.2 q else ct7 r (q - p.1) from fun _ _ _ => rfl]
  by_cases h4 : q - 8 - 8 - 32 - 40 < 40
  · rw [if_pos h4]; exact (epCheckpoint (fun q => m (88 + q)) (fun j => hm (88 + j)) _ h4).trans (congrArg m (by omega))
  rw [if_neg h4]
  omega

theorem okoData : OkData oData := ⟨⟨by decide, by decide⟩, ⟨by decide, by decide⟩, fun j hj => bd_zero j _ hj, okoCheckpoint, okoCheckpoint⟩

end Go.Proofs.YtokbhcgooboocaaDoor
namespace Go.Proofs.YtokbhcgooboocaaDoor
open Go.RowKit
set_option linter.unusedVariables false
set_option linter.unusedSimpArgs false

end Go.Proofs.YtokbhcgooboocaaDoor
