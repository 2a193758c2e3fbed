/-
  Values read and bytes, both Reads, the argument opened.
-/
import Derived.Test.YtaodonmbanpieabDoorCoA
import Derived.Test.YtaodonmbanpieabDoorCoB
import Derived.Test.YtaodonmbanpieabDoorCoC
import Derived.Test.YtaodonmbanpieabDoorThSignedExit
import Derived.Test.YtaodonmbanpieabDoorTrSignedExit
import Derived.Test.YtaodonmbanpieabDoorTyExit
namespace Go.Proofs.YtaodonmbanpieabDoor
open Go.RowKit
set_option linter.unusedVariables false
set_option linter.unusedSimpArgs false

theorem okpSignedExit (m : Nat → Int) (hm : ∀ j, 0 ≤ m j ∧ m j < 256) : OkSignedExit (pSignedExit m) := ⟨okpExit (fun q => m (0 + q)) (fun j => hm (0 + j)), fun j _ => hm (16 + j)⟩

theorem epSignedExit (m : Nat → Int) (hm : ∀ j, 0 ≤ m j ∧ m j < 256) (q : Nat) (hq : q < 112) : ct7 (eSignedExit (pSignedExit m)) q = m q := by
  unfold eSignedExit pSignedExit
  rw [show ∀ (p : Nat × (Nat → Int)) r q, ct7 (p :: r) q = if q < p.1 then p.2 q else ct7 r (q - p.1) from fun _ _ _ => rfl]
  by_cases h0 : q < 16
  · rw [if_pos h0]; exact (epExit (fun q => m (0 + q)) (fun j => hm (0 + j)) _ h0).trans (congrArg m (by omega))
  rw [if_neg h0]
  rw [show ∀ (p : Nat × (Nat → Int)) r q, ct7 (p :: r) q = if q < p.1 then p.2 q else ct7 r (q - p.1) from fun _ _ _ => rfl]
  by_cases h1 : q - 16 < 96
  · rw [if_pos h1]; exact congrArg m (by omega)
  rw [if_neg h1]
  omega

theorem okoSignedExit : OkSignedExit oSignedExit := ⟨okoExit, fun j hj => bd_zero j _ hj⟩

theorem ebdSignedExit (x : VSignedExit) (hx : OkSignedExit x) (q : Nat) : 0 ≤ ct7 (eSignedExit x) q ∧ ct7 (eSignedExit x) q < 256 := by
  obtain ⟨h0, h1⟩ := hx
  unfold eSignedExit
  rw [show ∀ (p : Nat × (Nat → Int)) r q, ct7 (p :: r) q = if q < p.1 then p.2 q else ct7 r (q - p.1) from fun _ _ _ => rfl]
  by_cases c0 : q < 16
  · rw [if_pos c0]; exact ebdExit _ h0 _
  rw [if_neg c0]
  rw [show ∀ (p : Nat × (Nat → Int)) r q, ct7 (p :: r) q = if q < p.1 then p.2 q else ct7 r (q - p.1) from fun _ _ _ => rfl]
  by_cases c1 : q - 16 < 96
  · rw [if_pos c1]; exact h1 _ c1
  rw [if_neg c1]
  exact ⟨Int.le_refl _, by show (0 : Int) < 256; decide⟩

theorem rdSignedExit (m : Nat → Int) (hm : ∀ j, 0 ≤ m j ∧ m j < 256) (len : Nat) (hlen : len ≤ 140737488351232) : ∃ (V : VSignedExit) (E : Int), OkSignedExit V ∧ (E = 0 → len = 112 ∧ ∀ q, q < 112 → ct7 (eSignedExit V) q = m q) ∧ (len = 112 → E = 0) ∧
    (∀ (w : World) ao cap, Bys w ao len cap m → len ≤ cap → cap ≤ 9223372036854775807 → Calls Tryd.prog 32 #[.slice ao len cap] w fun e w' => e = .returned (.tuple #[.agg (cel (sSignedExit V)), .int .i64 E]) ∧ Below w.heap.size w w') ∧
    (∀ (w : World) ao cap, Bys w ao len cap m → len ≤ cap → cap ≤ 9223372036854775807 → Calls Tryd.prog 33 #[.slice ao len cap] w fun e w' => e = .returned (.tuple #[.agg (cel (sSignedExit V)), .int .i64 E]) ∧ Below w.heap.size w w') := by
  by_cases h : len = 112
  · subst h
    exact ⟨pSignedExit m, 0, okpSignedExit m hm, fun _ => ⟨rfl, fun q hq => epSignedExit m hm q hq⟩, fun _ => rfl, fun w ao cap h1 h2 h3 => readSignedExit_ok m ao cap w h1 hm h2 h3, fun w ao cap h1 h2 h3 => rreadSignedExit_ok m ao cap w h1 hm h2 h3⟩
  · exact ⟨oSignedExit, 4, okoSignedExit, fun h0 => absurd h0 (by decide), fun h0 => absurd h0 h, fun w ao cap h1 h2 h3 => readSignedExit_no m ao len cap w h1 hm h2 h3 hlen h, fun w ao cap h1 h2 h3 => rreadSignedExit_no m ao len cap w h1 hm h2 h3 hlen h⟩

end Go.Proofs.YtaodonmbanpieabDoor
namespace Go.Proofs.YtaodonmbanpieabDoor
open Go.RowKit
set_option linter.unusedVariables false
set_option linter.unusedSimpArgs false

set_option maxRecDepth 100000 in
theorem open_SignedExit {H : Type} {enc : TypeId × Value → H} {W w : World} {r : Reach} {base b0 : Nat} {sp : Nat → Bool} {held : Bool} {v : Value} {d : DataW H} {p : List MemPlace}
    (hv : Value.okWide Tryd.prog W r base 64 v) (h : DataW.Trod enc Tryd.prog w b0 sp held 64 v d p) : ∃ x : VSignedExit, v = .agg (cel (sSignedExit x)) ∧ OkSignedExit x := by
  obtain ⟨cs, rfl, hs, xs, n, hxl, hat⟩ := open_str Tryd.underlying64 hv h
  have hsz : cs.size = 98 := hs.trans (by kernel_rfl)
  have hsl : cs.toList.length = 98 := by rw [Array.length_toList]; exact hsz
  have hx : xs.length = 2 := hxl
  have h0 := hat 0 _ rfl
  rw [List.getElem?_eq_getElem (by omega)] at h0
  have c0 : Tryd.prog.cellsOf 55 = 2 := by kernel_rfl
  replace h0 : DataW.trod enc Tryd.prog w b0 sp held n 55 ((cs.toList.drop 0).take (Tryd.prog.cellsOf 55)) = some xs[0] := h0
  rw [c0] at h0
  obtain ⟨f0, e0, k0⟩ := opl_Exit (by rw [List.length_take, List.length_drop, hsl]; rfl) h0
  have h1 := hat 1 _ rfl
  rw [List.getElem?_eq_getElem (by omega)] at h1
  have c1 : Tryd.prog.cellsOf 28 = 96 := by kernel_rfl
  replace h1 : DataW.trod enc Tryd.prog w b0 sp held n 28 ((cs.toList.drop 2).take (Tryd.prog.cellsOf 28)) = some xs[1] := h1
  rw [c1] at h1
  obtain ⟨f1, e1, k1⟩ := lst_by Tryd.underlying28 Tryd.underlying5 (by kernel_rfl) (by rw [List.length_take, List.length_drop, hsl]; rfl) h1
  have el : cs.toList.drop 0 = (cs.toList.drop 0).take 2 ++ ((cs.toList.drop 2).take 96 ++ ([])) := ((cut_list cs.toList 0 2).trans (congrArg _ ((cut_list cs.toList 2 96).trans (congrArg _ (List.drop_eq_nil_of_le (by rw [hsl]; exact Nat.le_refl _))))))
  rw [e0, e1] at el
  refine ⟨⟨f0, f1⟩, ?_, k0, k1⟩
  congr 1
  apply Array.ext'
  exact el

end Go.Proofs.YtaodonmbanpieabDoor
