/-
  Values read and bytes, both Reads, the argument opened.
-/
import Derived.Test.YtaodonmbanpieabDoorCoA
import Derived.Test.YtaodonmbanpieabDoorCoB
import Derived.Test.YtaodonmbanpieabDoorCoC
import Derived.Test.YtaodonmbanpieabDoorThSignedHeader
import Derived.Test.YtaodonmbanpieabDoorTrSignedHeader
import Derived.Test.YtaodonmbanpieabDoorTyHeader
namespace Go.Proofs.YtaodonmbanpieabDoor
open Go.RowKit
set_option linter.unusedVariables false
set_option linter.unusedSimpArgs false

theorem okpSignedHeader (m : Nat → Int) (hm : ∀ j, 0 ≤ m j ∧ m j < 256) : OkSignedHeader (pSignedHeader m) := ⟨okpHeader (fun q => m (0 + q)) (fun j => hm (0 + j)), fun j _ => hm (112 + j)⟩

theorem epSignedHeader (m : Nat → Int) (hm : ∀ j, 0 ≤ m j ∧ m j < 256) (q : Nat) (hq : q < 208) : ct7 (eSignedHeader (pSignedHeader m)) q = m q := by
  unfold eSignedHeader pSignedHeader
  rw [show ∀ (p : Nat × (Nat → Int)) r q, ct7 (p :: r) q = if q < p.1 then p.2 q else ct7 r (q - p.1) from fun _ _ _ => rfl]
  by_cases h0 : q < 112
  · rw [if_pos h0]; exact (epHeader (fun q => m (0 + q)) (fun j => hm (0 + j)) _ h0).trans (congrArg m (by omega))
  rw [if_neg h0]
  rw [show ∀ (p : Nat × (Nat → Int)) r q, ct7 (p :: r) q = if q < p.1 then p.2 q else ct7 r (q - p.1) from fun _ _ _ => rfl]
  by_cases h1 : q - 112 < 96
  · rw [if_pos h1]; exact congrArg m (by omega)
  rw [if_neg h1]
  omega

theorem okoSignedHeader : OkSignedHeader oSignedHeader := ⟨okoHeader, fun j hj => bd_zero j _ hj⟩

theorem ebdSignedHeader (x : VSignedHeader) (hx : OkSignedHeader x) (q : Nat) : 0 ≤ ct7 (eSignedHeader x) q ∧ ct7 (eSignedHeader x) q < 256 := by
  obtain ⟨h0, h1⟩ := hx
  unfold eSignedHeader
  rw [show ∀ (p : Nat × (Nat → Int)) r q, ct7 (p :: r) q = if q < p.1 then p.2 q else ct7 r (q - p.1) from fun _ _ _ => rfl]
  by_cases c0 : q < 112
  · rw [if_pos c0]; exact ebdHeader _ h0 _
  rw [if_neg c0]
  rw [show ∀ (p : Nat × (Nat → Int)) r q, ct7 (p :: r) q = if q < p.1 then p.2 q else ct7 r (q - p.1) from fun _ _ _ => rfl]
  by_cases c1 : q - 112 < 96
  · rw [if_pos c1]; exact h1 _ c1
  rw [if_neg c1]
  exact ⟨Int.le_refl _, by show (0 : Int) < 256; decide⟩

theorem rdSignedHeader (m : Nat → Int) (hm : ∀ j, 0 ≤ m j ∧ m j < 256) (len : Nat) (hlen : len ≤ 140737488351232) : ∃ (V : VSignedHeader) (E : Int), OkSignedHeader V ∧ (E = 0 → len = 208 ∧ ∀ q, q < 208 → ct7 (eSignedHeader V) q = m q) ∧ (len = 208 → E = 0) ∧
    (∀ (w : World) ao cap, Bys w ao len cap m → len ≤ cap → cap ≤ 9223372036854775807 → Calls Tryd.prog 14 #[.slice ao len cap] w fun e w' => e = .returned (.tuple #[.agg (cel (sSignedHeader V)), .int .i64 E]) ∧ Below w.heap.size w w') ∧
    (∀ (w : World) ao cap, Bys w ao len cap m → len ≤ cap → cap ≤ 9223372036854775807 → Calls Tryd.prog 15 #[.slice ao len cap] w fun e w' => e = .returned (.tuple #[.agg (cel (sSignedHeader V)), .int .i64 E]) ∧ Below w.heap.size w w') := by
  by_cases h : len = 208
  · subst h
    exact ⟨pSignedHeader m, 0, okpSignedHeader m hm, fun _ => ⟨rfl, fun q hq => epSignedHeader m hm q hq⟩, fun _ => rfl, fun w ao cap h1 h2 h3 => readSignedHeader_ok m ao cap w h1 hm h2 h3, fun w ao cap h1 h2 h3 => rreadSignedHeader_ok m ao cap w h1 hm h2 h3⟩
  · exact ⟨oSignedHeader, 4, okoSignedHeader, fun h0 => absurd h0 (by decide), fun h0 => absurd h0 h, fun w ao cap h1 h2 h3 => readSignedHeader_no m ao len cap w h1 hm h2 h3 hlen h, fun w ao cap h1 h2 h3 => rreadSignedHeader_no m ao len cap w h1 hm h2 h3 hlen h⟩

end Go.Proofs.YtaodonmbanpieabDoor
namespace Go.Proofs.YtaodonmbanpieabDoor
open Go.RowKit
set_option linter.unusedVariables false
set_option linter.unusedSimpArgs false

set_option maxRecDepth 100000 in
theorem open_SignedHeader {H : Type} {enc : TypeId × Value → H} {W w : World} {r : Reach} {base b0 : Nat} {sp : Nat → Bool} {held : Bool} {v : Value} {d : DataW H} {p : List MemPlace}
    (hv : Value.okWide Tryd.prog W r base 30 v) (h : DataW.Trod enc Tryd.prog w b0 sp held 30 v d p) : ∃ x : VSignedHeader, v = .agg (cel (sSignedHeader x)) ∧ OkSignedHeader x := by
  obtain ⟨cs, rfl, hs, xs, n, hxl, hat⟩ := open_str Tryd.underlying30 hv h
  have hsz : cs.size = 194 := hs.trans (by kernel_rfl)
  have hsl : cs.toList.length = 194 := by rw [Array.length_toList]; exact hsz
  have hx : xs.length = 2 := hxl
  have h0 := hat 0 _ rfl
  rw [List.getElem?_eq_getElem (by omega)] at h0
  have c0 : Tryd.prog.cellsOf 26 = 98 := by kernel_rfl
  replace h0 : DataW.trod enc Tryd.prog w b0 sp held n 26 ((cs.toList.drop 0).take (Tryd.prog.cellsOf 26)) = some xs[0] := h0
  rw [c0] at h0
  obtain ⟨f0, e0, k0⟩ := opl_Header (by rw [List.length_take, List.length_drop, hsl]; rfl) h0
  have h1 := hat 1 _ rfl
  rw [List.getElem?_eq_getElem (by omega)] at h1
  have c1 : Tryd.prog.cellsOf 28 = 96 := by kernel_rfl
  replace h1 : DataW.trod enc Tryd.prog w b0 sp held n 28 ((cs.toList.drop 98).take (Tryd.prog.cellsOf 28)) = some xs[1] := h1
  rw [c1] at h1
  obtain ⟨f1, e1, k1⟩ := lst_by Tryd.underlying28 Tryd.underlying5 (by kernel_rfl) (by rw [List.length_take, List.length_drop, hsl]; rfl) h1
  have el : cs.toList.drop 0 = (cs.toList.drop 0).take 98 ++ ((cs.toList.drop 98).take 96 ++ ([])) := ((cut_list cs.toList 0 98).trans (congrArg _ ((cut_list cs.toList 98 96).trans (congrArg _ (List.drop_eq_nil_of_le (by rw [hsl]; exact Nat.le_refl _))))))
  rw [e0, e1] at el
  refine ⟨⟨f0, f1⟩, ?_, k0, k1⟩
  congr 1
  apply Array.ext'
  exact el

end Go.Proofs.YtaodonmbanpieabDoor
