/-
  Values read and bytes, both Reads, the argument opened.
-/
import Derived.Test.YtbbpnbdgcaamoaaDoorCoA
import Derived.Test.YtbbpnbdgcaamoaaDoorCoB
import Derived.Test.YtbbpnbdgcaamoaaDoorCoC
import Derived.Test.YtbbpnbdgcaamoaaDoorThSignedHeader
import Derived.Test.YtbbpnbdgcaamoaaDoorTrSignedHeader
import Derived.Test.YtbbpnbdgcaamoaaDoorTyHeader
namespace Go.Proofs.YtbbpnbdgcaamoaaDoor
open Go.RowKit
set_option linter.unusedVariables false
set_option linter.unusedSimpArgs false

theorem okpSignedHeader (m : Nat → Int) (hm : ∀ j, 0 ≤ m j ∧ m j < 256) : OkSignedHeader (pSignedHeader m) := ⟨okpHeader (fun q => m (0 + q)) (fun j => hm (0 + j)), fun j _ => hm (112 + j)⟩

theorem epSignedHeader (m : Nat → Int) (hm : ∀ j, 0 ≤ m j ∧ m j < 256) (q : Nat) (hq : q < 208) : ct7 (eSignedHeader (pSignedHeader m)) q = m q := by
  unfold eSignedHeader pSignedHeader
  rw [show ∀ (p : Nat × (Nat → Int)) r q, ct7 (p :: r) q = if q < p.1 then p.2 q else ct7 r (q - p.1) from fun _ _ _ => rfl]
  by_cases h0 : q < 112
  · rw [if_pos h0]; exact (epHeader (fun q => m (0 + q)) (fun j => hm (0 + j)) _ h0).trans (congrArg m (by omega))
  rw [if_neg h0]
  rw [show ∀ (p : Nat × (Nat → Int)) r q, ct7 (p :: r) q = if q < p.1 then p.2 q else ct7 r (q - p.1) from fun _ _ _ => rfl]
  by_cases h1 : q - 112 < 96
  · rw [if_pos h1]; exact congrArg m (by omega)
  rw [if_neg h1]
  omega

theorem okoSignedHeader : OkSignedHeader oSignedHeader := ⟨okoHeader, fun j hj => bd_zero j _ hj⟩

theorem ebdSignedHeader (x : VSignedHeader) (hx : OkSignedHeader x) (q : Nat) : 0 ≤ ct7 (eSignedHeader x) q ∧ ct7 (eSignedHeader x) q < 256 := by
  obtain ⟨h0, h1⟩ := hx
  unfold eSignedHeader
  rw [show ∀ (p : Nat × (Nat → Int)) r q, ct7 (p :: r) q = if q < p.1 then p.2 q else ct7 r (q - p.1) from fun _ _ _ => rfl]
  by_cases c0 : q < 112
  · rw [if_pos c0]; exact ebdHeader _ h0 _
  rw [if_neg c0]
  rw [show ∀ (p : Nat × (Nat → Int)) r q, ct7 (p :: r) q = if q < p.1 then p.2 q else ct7 r (q - p.1) from fun _ _ _ => rfl]
  by_cases c1 : q - 112 < 96
  · rw [if_pos c1]; exact h1 _ c1
  rw [if_neg c1]
  exact ⟨Int.le_refl _, by show (0 : Int) < 256; decide⟩

end Go.Proofs.YtbbpnbdgcaamoaaDoor
namespace Go.Proofs.YtbbpnbdgcaamoaaDoor
open Go.RowKit
set_option linter.unusedVariables false
set_option linter.unusedSimpArgs false

end Go.Proofs.YtbbpnbdgcaamoaaDoor
