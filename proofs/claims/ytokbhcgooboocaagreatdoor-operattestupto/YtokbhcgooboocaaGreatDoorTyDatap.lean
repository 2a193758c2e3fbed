/-
  Values read and bytes, both Reads, the argument opened.
-/
import Derived.Test.YtokbhcgooboocaaGreatDoorCoAp
import Derived.Test.YtokbhcgooboocaaGreatDoorCoBp
import Derived.Test.YtokbhcgooboocaaGreatDoorCoCp
import Derived.Test.YtokbhcgooboocaaGreatDoorThCheckpointp
import Derived.Test.YtokbhcgooboocaaGreatDoorTrCheckpointp
import Derived.Test.YtokbhcgooboocaaGreatDoorThDatap
import Derived.Test.YtokbhcgooboocaaGreatDoorTrDatap
namespace Go.Proofs.YtokbhcgooboocaaGreatDoor
open Go.RowKit
set_option linter.unusedVariables false
set_option linter.unusedSimpArgs false

theorem okpCheckpoint (m : Nat → Int) (hm : ∀ j, 0 ≤ m j ∧ m j < 256) : OkCheckpoint (pCheckpoint m) := ⟨rdN_bd (f := fun q => m (0 + q)) (fun j _ => hm (0 + j)), fun j _ => hm (8 + j)⟩

theorem epCheckpoint (m : Nat → Int) (hm : ∀ j, 0 ≤ m j ∧ m j < 256) (q : Nat) (hq : q < 40) : ct7 (eCheckpoint (pCheckpoint m)) q = m q := by
  simp only [eCheckpoint, pCheckpoint, ct7]
  by_cases h0 : q < 8
  · rw [if_pos h0, nm_rd (fun q => m (0 + q)) (fun j _ => hm (0 + j)) _ h0]; exact congrArg m (by omega)
  rw [if_neg h0]
  by_cases h1 : q - 8 < 32
  · rw [if_pos h1]; exact congrArg m (by omega)
  rw [if_neg h1]
  omega

end Go.Proofs.YtokbhcgooboocaaGreatDoor
namespace Go.Proofs.YtokbhcgooboocaaGreatDoor
open Go.RowKit
set_option linter.unusedVariables false
set_option linter.unusedSimpArgs false

end Go.Proofs.YtokbhcgooboocaaGreatDoor
namespace Go.Proofs.YtokbhcgooboocaaGreatDoor
open Go.RowKit
set_option linter.unusedVariables false
set_option linter.unusedSimpArgs false

theorem okoCheckpoint : OkCheckpoint oCheckpoint := ⟨⟨by decide, by decide⟩, fun j hj => bd_zero j _ hj⟩

end Go.Proofs.YtokbhcgooboocaaGreatDoor
namespace Go.Proofs.YtokbhcgooboocaaGreatDoor
open Go.RowKit
set_option linter.unusedVariables false
set_option linter.unusedSimpArgs false

set_option maxRecDepth 100000 in
theorem opl_Checkpoint {H : Type} {enc : TypeId × Value → H} {w : World} {b0 fuel : Nat} {sp : Nat → Bool} {held : Bool} {cs : List Value} {y : DataW H × List MemPlace}
    (hsl : cs.length = 33) (h : DataW.trod enc Tryz.prog w b0 sp held fuel 27 cs = some y) : ∃ x : VCheckpoint, cs = celL (sCheckpoint x) ∧ OkCheckpoint x := by
  obtain ⟨xs, n, _, _, _, hxl, hat⟩ := DataW.trod_struct Tryz.underlying27 h
  have hx : xs.length = 2 := hxl
  have h0 := hat 0 _ rfl
  rw [List.getElem?_eq_getElem (by omega)] at h0
  have c0 : Tryz.prog.cellsOf 23 = 1 := by kernel_rfl
  replace h0 : DataW.trod enc Tryz.prog w b0 sp held n 23 ((cs.drop 0).take (Tryz.prog.cellsOf 23)) = some xs[0] := h0
  rw [c0] at h0
  obtain ⟨f0, e0, _, w0⟩ := DataW.trod_int Tryz.underlying23 h0
  have k0 := bounds_u64 w0
  have h1 := hat 1 _ rfl
  rw [List.getElem?_eq_getElem (by omega)] at h1
  have c1 : Tryz.prog.cellsOf 25 = 32 := by kernel_rfl
  replace h1 : DataW.trod enc Tryz.prog w b0 sp held n 25 ((cs.drop 1).take (Tryz.prog.cellsOf 25)) = some xs[1] := h1
  rw [c1] at h1
  obtain ⟨f1, e1, k1⟩ := lst_by Tryz.underlying25 Tryz.underlying5 (by kernel_rfl) (by rw [List.length_take, List.length_drop, hsl]; rfl) h1
  have el : cs.drop 0 = (cs.drop 0).take 1 ++ ((cs.drop 1).take 32 ++ ([])) := ((cut_list cs 0 1).trans (congrArg _ ((cut_list cs 1 32).trans (congrArg _ (List.drop_eq_nil_of_le (by rw [hsl]; exact Nat.le_refl _))))))
  rw [e0, e1] at el
  refine ⟨⟨f0, f1⟩, ?_, ⟨k0.1, Int.lt_of_le_of_lt k0.2 (by decide)⟩, k1⟩
  exact el

end Go.Proofs.YtokbhcgooboocaaGreatDoor

namespace Go.Proofs.YtokbhcgooboocaaGreatDoor
open Go.RowKit
set_option linter.unusedVariables false
set_option linter.unusedSimpArgs false

theorem okpData (m : Nat → Int) (hm : ∀ j, 0 ≤ m j ∧ m j < 256) : OkData (pData m) := ⟨rdN_bd (f := fun q => m (0 + q)) (fun j _ => hm (0 + j)), rdN_bd (f := fun q => m (8 + q)) (fun j _ => hm (8 + j)), fun j _ => hm (16 + j), okpCheckpoint (fun q => m (48 + q)) (fun j => hm (48 + j)), okpCheckpoint (fun q => m (88 + q)) (fun j => hm (88 + j))⟩

theorem epData (m : Nat → Int) (hm : ∀ j, 0 ≤ m j ∧ m j < 256) (q : Nat) (hq : q < 128) : ct7 (eData (pData m)) q = m q := by
  unfold eData pData
  rw [show ∀ (p : Nat × (Nat → Int)) r q, ct7 (p :: r) q = if q < p.1 then p.2 q else ct7 r (q - p.1) from fun _ _ _ => rfl]
  by_cases h0 : q < 8
  · rw [if_pos h0]; exact (nm_rd (fun q => m (0 + q)) (fun j _ => hm (0 + j)) _ h0).trans (congrArg m (by omega))
  rw [if_neg h0]
  rw [show ∀ (p : Nat × (Nat → Int)) r q, ct7 (p :: r) q = if q < p.1 then p.2 q else ct7 r (q - p.1) from fun _ _ _ => rfl]
  by_cases h1 : q - 8 < 8
  · rw [if_pos h1]; exact (nm_rd (fun q => m (8 + q)) (fun j _ => hm (8 + j)) _ h1).trans (congrArg m (by omega))
  rw [if_neg h1]
  rw [show ∀ (p : Nat × (Nat → Int)) r q, ct7 (p :: r) q = if q < p.1 then p.2 q else ct7 r (q - p.1) from fun _ _ _ => rfl]
  by_cases h2 : q - 8 - 8 < 32
  · rw [if_pos h2]; exact congrArg m (by omega)
  rw [if_neg h2]
  rw [show ∀ (p : Nat × (Nat → Int)) r q, ct7 (p :: r) q = if q < p.1 then p.2 q else ct7 r (q - p.1) from fun _ _ _ => rfl]
  by_cases h3 : q - 8 - 8 - 32 < 40
  · rw [if_pos h3]; exact (epCheckpoint (fun q => m (48 + q)) (fun j => hm (48 + j)) _ h3).trans (congrArg m (by omega))
  rw [if_neg h3]
  rw [show ∀ (p : Nat × (Nat → Int)) r q, ct7 (p :: r) q = if q < p.1 then p.2 q else ct7 r (q - p.1) from fun _ _ _ => rfl]
  by_cases h4 : q - 8 - 8 - 32 - 40 < 40
  · rw [if_pos h4]; exact (epCheckpoint (fun q => m (88 + q)) (fun j => hm (88 + j)) _ h4).trans (congrArg m (by omega))
  rw [if_neg h4]
  omega

theorem okoData : OkData oData := ⟨⟨by decide, by decide⟩, ⟨by decide, by decide⟩, fun j hj => bd_zero j _ hj, okoCheckpoint, okoCheckpoint⟩

end Go.Proofs.YtokbhcgooboocaaGreatDoor
namespace Go.Proofs.YtokbhcgooboocaaGreatDoor
open Go.RowKit
set_option linter.unusedVariables false
set_option linter.unusedSimpArgs false

end Go.Proofs.YtokbhcgooboocaaGreatDoor
