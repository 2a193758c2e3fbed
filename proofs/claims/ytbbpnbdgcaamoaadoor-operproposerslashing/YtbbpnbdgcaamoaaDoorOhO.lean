/-
  An argument that is a ProposerSlashing, opened.
-/
import Derived.Test.YtbbpnbdgcaamoaaDoorOhA
import Derived.Test.YtbbpnbdgcaamoaaDoorTySignedHeader
import Derived.Test.YtbbpnbdgcaamoaaDoorOpr
namespace Go.Proofs.YtbbpnbdgcaamoaaDoor
open Go.RowKit
set_option linter.unusedVariables false
set_option linter.unusedSimpArgs false

set_option maxRecDepth 100000 in
theorem opl_SignedHeader {H : Type} {enc : TypeId × Value → H} {w : World} {b0 fuel : Nat} {sp : Nat → Bool} {held : Bool} {cs : List Value} {y : DataW H × List MemPlace}
    (hsl : cs.length = 194) (h : DataW.trod enc Tryd.prog w b0 sp held fuel 47 cs = some y) : ∃ x : VSignedHeader, cs = celL (sSignedHeader x) ∧ OkSignedHeader x := by
  obtain ⟨xs, n, _, _, _, hxl, hat⟩ := DataW.trod_struct Tryd.underlying47 h
  have hx : xs.length = 2 := hxl
  have h0 := hat 0 _ rfl
  rw [List.getElem?_eq_getElem (by omega)] at h0
  have c0 : Tryd.prog.cellsOf 45 = 98 := by kernel_rfl
  replace h0 : DataW.trod enc Tryd.prog w b0 sp held n 45 ((cs.drop 0).take (Tryd.prog.cellsOf 45)) = some xs[0] := h0
  rw [c0] at h0
  obtain ⟨f0, e0, k0⟩ := opl_Header (by rw [List.length_take, List.length_drop, hsl]; rfl) h0
  have h1 := hat 1 _ rfl
  rw [List.getElem?_eq_getElem (by omega)] at h1
  have c1 : Tryd.prog.cellsOf 31 = 96 := by kernel_rfl
  replace h1 : DataW.trod enc Tryd.prog w b0 sp held n 31 ((cs.drop 98).take (Tryd.prog.cellsOf 31)) = some xs[1] := h1
  rw [c1] at h1
  obtain ⟨f1, e1, k1⟩ := lst_by Tryd.underlying31 Tryd.underlying5 (by kernel_rfl) (by rw [List.length_take, List.length_drop, hsl]; rfl) h1
  have el : cs.drop 0 = (cs.drop 0).take 98 ++ ((cs.drop 98).take 96 ++ ([])) := ((cut_list cs 0 98).trans (congrArg _ ((cut_list cs 98 96).trans (congrArg _ (List.drop_eq_nil_of_le (by rw [hsl]; exact Nat.le_refl _))))))
  rw [e0, e1] at el
  refine ⟨⟨f0, f1⟩, ?_, k0, k1⟩
  exact el

set_option maxRecDepth 100000 in
theorem open_ProposerSlashing {H : Type} {enc : TypeId × Value → H} {W w : World} {r : Reach} {base b0 : Nat} {sp : Nat → Bool} {held : Bool} {v : Value} {d : DataW H} {p : List MemPlace}
    (hv : Value.okWide Tryd.prog W r base 49 v) (h : DataW.Trod enc Tryd.prog w b0 sp held 49 v d p) : ∃ x : VProposerSlashing, v = .agg (cel (sProposerSlashing x)) ∧ OkProposerSlashing x := by
  obtain ⟨cs, rfl, hs, xs, n, hxl, hat⟩ := open_str Tryd.underlying49 hv h
  have hsz : cs.size = 388 := hs.trans (by kernel_rfl)
  have hsl : cs.toList.length = 388 := by rw [Array.length_toList]; exact hsz
  have hx : xs.length = 2 := hxl
  have h0 := hat 0 _ rfl
  rw [List.getElem?_eq_getElem (by omega)] at h0
  have c0 : Tryd.prog.cellsOf 47 = 194 := by kernel_rfl
  replace h0 : DataW.trod enc Tryd.prog w b0 sp held n 47 ((cs.toList.drop 0).take (Tryd.prog.cellsOf 47)) = some xs[0] := h0
  rw [c0] at h0
  obtain ⟨f0, e0, k0⟩ := opl_SignedHeader (by rw [List.length_take, List.length_drop, hsl]; rfl) h0
  have h1 := hat 1 _ rfl
  rw [List.getElem?_eq_getElem (by omega)] at h1
  have c1 : Tryd.prog.cellsOf 47 = 194 := by kernel_rfl
  replace h1 : DataW.trod enc Tryd.prog w b0 sp held n 47 ((cs.toList.drop 194).take (Tryd.prog.cellsOf 47)) = some xs[1] := h1
  rw [c1] at h1
  obtain ⟨f1, e1, k1⟩ := opl_SignedHeader (by rw [List.length_take, List.length_drop, hsl]; rfl) h1
  have el : cs.toList.drop 0 = (cs.toList.drop 0).take 194 ++ ((cs.toList.drop 194).take 194 ++ ([])) := ((cut_list cs.toList 0 194).trans (congrArg _ ((cut_list cs.toList 194 194).trans (congrArg _ (List.drop_eq_nil_of_le (by rw [hsl]; exact Nat.le_refl _))))))
  rw [e0, e1] at el
  refine ⟨⟨f0, f1⟩, ?_, k0, k1⟩
  congr 1
  apply Array.ext'
  exact el

end Go.Proofs.YtbbpnbdgcaamoaaDoor
