/-
  Values read and bytes, both Reads, the argument opened.
-/

import Derived.Test.YtmpagacbmoeipaaDoorZQ
namespace Go.Proofs.YtmpagacbmoeipaaDoor

open Go.RowKit

set_option linter.unusedVariables false

set_option linter.unusedSimpArgs false

end Go.Proofs.YtmpagacbmoeipaaDoor

namespace Go.Proofs.YtmpagacbmoeipaaDoor

open Go.RowKit

set_option linter.unusedVariables false

set_option linter.unusedSimpArgs false

set_option maxRecDepth 100000 in
theorem open_DepositData {H : Type} {enc : TypeId × Value → H} {W w : World} {r : Reach} {base b0 : Nat} {sp : Nat → Bool} {held : Bool} {v : Value} {d : DataW H} {p : List MemPlace}
    (hv : Value.okWide Tryd.prog W r base 58 v) (h : DataW.Trod enc Tryd.prog w b0 sp held 58 v d p) : ∃ x : VDepositData, v = .agg (cel (sDepositData x)) ∧ OkDepositData x := by
  obtain ⟨cs, rfl, hs, xs, n, hxl, hat⟩ := open_str Tryd.underlying58 hv h
  have hsz : cs.size = 177 := hs.trans (by kernel_rfl)
  have hx : xs.length = 4 := hxl
  have h0 := hat 0 _ rfl
  rw [List.getElem?_eq_getElem (by omega)] at h0
  have c0 : Tryd.prog.cellsOf 44 = 48 := by kernel_rfl
  replace h0 : DataW.trod enc Tryd.prog w b0 sp held n 44 ((cs.toList.drop 0).take (Tryd.prog.cellsOf 44)) = some xs[0] := h0
  rw [c0] at h0
  obtain ⟨f0, e0, k0⟩ := lst_by Tryd.underlying44 Tryd.underlying5 (by kernel_rfl) (by rw [List.length_take, List.length_drop, Array.length_toList, hsz]; rfl) h0
  have h1 := hat 1 _ rfl
  rw [List.getElem?_eq_getElem (by omega)] at h1
  have c1 : Tryd.prog.cellsOf 24 = 32 := by kernel_rfl
  replace h1 : DataW.trod enc Tryd.prog w b0 sp held n 24 ((cs.toList.drop 48).take (Tryd.prog.cellsOf 24)) = some xs[1] := h1
  rw [c1] at h1
  obtain ⟨f1, e1, k1⟩ := lst_by Tryd.underlying24 Tryd.underlying5 (by kernel_rfl) (by rw [List.length_take, List.length_drop, Array.length_toList, hsz]; rfl) h1
  have h2 := hat 2 _ rfl
  rw [List.getElem?_eq_getElem (by omega)] at h2
  have c2 : Tryd.prog.cellsOf 22 = 1 := by kernel_rfl
  replace h2 : DataW.trod enc Tryd.prog w b0 sp held n 22 ((cs.toList.drop 80).take (Tryd.prog.cellsOf 22)) = some xs[2] := h2
  rw [c2] at h2
  obtain ⟨f2, e2, _, w2⟩ := DataW.trod_int Tryd.underlying22 h2
  have k2 := bounds_u64 w2
  have h3 := hat 3 _ rfl
  rw [List.getElem?_eq_getElem (by omega)] at h3
  have c3 : Tryd.prog.cellsOf 56 = 96 := by kernel_rfl
  replace h3 : DataW.trod enc Tryd.prog w b0 sp held n 56 ((cs.toList.drop 81).take (Tryd.prog.cellsOf 56)) = some xs[3] := h3
  rw [c3] at h3
  obtain ⟨f3, e3, k3⟩ := lst_by Tryd.underlying56 Tryd.underlying5 (by kernel_rfl) (by rw [List.length_take, List.length_drop, Array.length_toList, hsz]; rfl) h3
  have el : cs.toList.drop 0 = (cs.toList.drop 0).take 48 ++ ((cs.toList.drop 48).take 32 ++ ((cs.toList.drop 80).take 1 ++ ((cs.toList.drop 81).take 96 ++ ([])))) := ((cut_list cs.toList 0 48).trans (congrArg _ ((cut_list cs.toList 48 32).trans (congrArg _ ((cut_list cs.toList 80 1).trans (congrArg _ ((cut_list cs.toList 81 96).trans (congrArg _ (List.drop_eq_nil_of_le (by rw [Array.length_toList, hsz]; exact Nat.le_refl _))))))))))
  rw [e0, e1, e2, e3] at el
  refine ⟨⟨f0, f1, f2, f3⟩, ?_, k0, k1, ⟨k2.1, Int.lt_of_le_of_lt k2.2 (by decide)⟩, k3⟩
  congr 1
  apply Array.ext'
  exact el

end Go.Proofs.YtmpagacbmoeipaaDoor

namespace Go.Proofs.YtmpagacbmoeipaaDoor

open Go.RowKit

set_option linter.unusedVariables false

set_option linter.unusedSimpArgs false

end Go.Proofs.YtmpagacbmoeipaaDoor
