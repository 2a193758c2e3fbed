/-
  Values read and bytes, both Reads, the argument opened.
-/
import Derived.Test.YtbbpnbdgcaamoaaDoorCoA
import Derived.Test.YtbbpnbdgcaamoaaDoorCoB
import Derived.Test.YtbbpnbdgcaamoaaDoorCoC
import Derived.Test.YtbbpnbdgcaamoaaDoorThHeader
import Derived.Test.YtbbpnbdgcaamoaaDoorTrHeader
namespace Go.Proofs.YtbbpnbdgcaamoaaDoor
open Go.RowKit
set_option linter.unusedVariables false
set_option linter.unusedSimpArgs false

theorem okpHeader (m : Nat → Int) (hm : ∀ j, 0 ≤ m j ∧ m j < 256) : OkHeader (pHeader m) := ⟨rdN_bd (f := fun q => m (0 + q)) (fun j _ => hm (0 + j)), rdN_bd (f := fun q => m (8 + q)) (fun j _ => hm (8 + j)), fun j _ => hm (16 + j), fun j _ => hm (48 + j), fun j _ => hm (80 + j)⟩

theorem epHeader (m : Nat → Int) (hm : ∀ j, 0 ≤ m j ∧ m j < 256) (q : Nat) (hq : q < 112) : ct7 (eHeader (pHeader m)) q = m q := by
  simp only [eHeader, pHeader, ct7]
  by_cases h0 : q < 8
  · rw [if_pos h0, nm_rd (fun q => m (0 + q)) (fun j _ => hm (0 + j)) _ h0]; exact congrArg m (by omega)
  rw [if_neg h0]
  by_cases h1 : q - 8 < 8
  · rw [if_pos h1, nm_rd (fun q => m (8 + q)) (fun j _ => hm (8 + j)) _ h1]; exact congrArg m (by omega)
  rw [if_neg h1]
  by_cases h2 : q - 8 - 8 < 32
  · rw [if_pos h2]; exact congrArg m (by omega)
  rw [if_neg h2]
  by_cases h3 : q - 8 - 8 - 32 < 32
  · rw [if_pos h3]; exact congrArg m (by omega)
  rw [if_neg h3]
  by_cases h4 : q - 8 - 8 - 32 - 32 < 32
  · rw [if_pos h4]; exact congrArg m (by omega)
  rw [if_neg h4]
  omega

end Go.Proofs.YtbbpnbdgcaamoaaDoor
namespace Go.Proofs.YtbbpnbdgcaamoaaDoor
open Go.RowKit
set_option linter.unusedVariables false
set_option linter.unusedSimpArgs false

end Go.Proofs.YtbbpnbdgcaamoaaDoor
namespace Go.Proofs.YtbbpnbdgcaamoaaDoor
open Go.RowKit
set_option linter.unusedVariables false
set_option linter.unusedSimpArgs false

theorem okoHeader : OkHeader oHeader := ⟨⟨by decide, by decide⟩, ⟨by decide, by decide⟩, fun j hj => bd_zero j _ hj, fun j hj => bd_zero j _ hj, fun j hj => bd_zero j _ hj⟩

theorem ebdHeader (x : VHeader) (hx : OkHeader x) (q : Nat) : 0 ≤ ct7 (eHeader x) q ∧ ct7 (eHeader x) q < 256 := by
  obtain ⟨h0, h1, h2, h3, h4⟩ := hx
  simp only [eHeader, ct7]
  by_cases c0 : q < 8
  · rw [if_pos c0]; exact nmB_bd _ _
  rw [if_neg c0]
  by_cases c1 : q - 8 < 8
  · rw [if_pos c1]; exact nmB_bd _ _
  rw [if_neg c1]
  by_cases c2 : q - 8 - 8 < 32
  · rw [if_pos c2]; exact h2 _ c2
  rw [if_neg c2]
  by_cases c3 : q - 8 - 8 - 32 < 32
  · rw [if_pos c3]; exact h3 _ c3
  rw [if_neg c3]
  by_cases c4 : q - 8 - 8 - 32 - 32 < 32
  · rw [if_pos c4]; exact h4 _ c4
  rw [if_neg c4]
  exact ⟨Int.le_refl _, by decide⟩

end Go.Proofs.YtbbpnbdgcaamoaaDoor
namespace Go.Proofs.YtbbpnbdgcaamoaaDoor
open Go.RowKit
set_option linter.unusedVariables false
set_option linter.unusedSimpArgs false

set_option maxRecDepth 100000 in
theorem opl_Header {H : Type} {enc : TypeId × Value → H} {w : World} {b0 fuel : Nat} {sp : Nat → Bool} {held : Bool} {cs : List Value} {y : DataW H × List MemPlace}
    (hsl : cs.length = 98) (h : DataW.trod enc Tryd.prog w b0 sp held fuel 45 cs = some y) : ∃ x : VHeader, cs = celL (sHeader x) ∧ OkHeader x := by
  obtain ⟨xs, n, _, _, _, hxl, hat⟩ := DataW.trod_struct Tryd.underlying45 h
  have hx : xs.length = 5 := hxl
  have h0 := hat 0 _ rfl
  rw [List.getElem?_eq_getElem (by omega)] at h0
  have c0 : Tryd.prog.cellsOf 23 = 1 := by kernel_rfl
  replace h0 : DataW.trod enc Tryd.prog w b0 sp held n 23 ((cs.drop 0).take (Tryd.prog.cellsOf 23)) = some xs[0] := h0
  rw [c0] at h0
  obtain ⟨f0, e0, _, w0⟩ := DataW.trod_int Tryd.underlying23 h0
  have k0 := bounds_u64 w0
  have h1 := hat 1 _ rfl
  rw [List.getElem?_eq_getElem (by omega)] at h1
  have c1 : Tryd.prog.cellsOf 23 = 1 := by kernel_rfl
  replace h1 : DataW.trod enc Tryd.prog w b0 sp held n 23 ((cs.drop 1).take (Tryd.prog.cellsOf 23)) = some xs[1] := h1
  rw [c1] at h1
  obtain ⟨f1, e1, _, w1⟩ := DataW.trod_int Tryd.underlying23 h1
  have k1 := bounds_u64 w1
  have h2 := hat 2 _ rfl
  rw [List.getElem?_eq_getElem (by omega)] at h2
  have c2 : Tryd.prog.cellsOf 25 = 32 := by kernel_rfl
  replace h2 : DataW.trod enc Tryd.prog w b0 sp held n 25 ((cs.drop 2).take (Tryd.prog.cellsOf 25)) = some xs[2] := h2
  rw [c2] at h2
  obtain ⟨f2, e2, k2⟩ := lst_by Tryd.underlying25 Tryd.underlying5 (by kernel_rfl) (by rw [List.length_take, List.length_drop, hsl]; rfl) h2
  have h3 := hat 3 _ rfl
  rw [List.getElem?_eq_getElem (by omega)] at h3
  have c3 : Tryd.prog.cellsOf 25 = 32 := by kernel_rfl
  replace h3 : DataW.trod enc Tryd.prog w b0 sp held n 25 ((cs.drop 34).take (Tryd.prog.cellsOf 25)) = some xs[3] := h3
  rw [c3] at h3
  obtain ⟨f3, e3, k3⟩ := lst_by Tryd.underlying25 Tryd.underlying5 (by kernel_rfl) (by rw [List.length_take, List.length_drop, hsl]; rfl) h3
  have h4 := hat 4 _ rfl
  rw [List.getElem?_eq_getElem (by omega)] at h4
  have c4 : Tryd.prog.cellsOf 25 = 32 := by kernel_rfl
  replace h4 : DataW.trod enc Tryd.prog w b0 sp held n 25 ((cs.drop 66).take (Tryd.prog.cellsOf 25)) = some xs[4] := h4
  rw [c4] at h4
  obtain ⟨f4, e4, k4⟩ := lst_by Tryd.underlying25 Tryd.underlying5 (by kernel_rfl) (by rw [List.length_take, List.length_drop, hsl]; rfl) h4
  have el : cs.drop 0 = (cs.drop 0).take 1 ++ ((cs.drop 1).take 1 ++ ((cs.drop 2).take 32 ++ ((cs.drop 34).take 32 ++ ((cs.drop 66).take 32 ++ ([]))))) := ((cut_list cs 0 1).trans (congrArg _ ((cut_list cs 1 1).trans (congrArg _ ((cut_list cs 2 32).trans (congrArg _ ((cut_list cs 34 32).trans (congrArg _ ((cut_list cs 66 32).trans (congrArg _ (List.drop_eq_nil_of_le (by rw [hsl]; exact Nat.le_refl _))))))))))))
  rw [e0, e1, e2, e3, e4] at el
  refine ⟨⟨f0, f1, f2, f3, f4⟩, ?_, ⟨k0.1, Int.lt_of_le_of_lt k0.2 (by decide)⟩, ⟨k1.1, Int.lt_of_le_of_lt k1.2 (by decide)⟩, k2, k3, k4⟩
  exact el

end Go.Proofs.YtbbpnbdgcaamoaaDoor
