/-
  Values read and bytes, both Reads, the argument opened.
-/

import Derived.Test.YtmbgidfngefniaaCoA
import Derived.Test.YtmbgidfngefniaaCoB
import Derived.Test.YtmbgidfngefniaaCoC
import Derived.Test.YtmbgidfngefniaaTyCheckpoint
namespace Go.Proofs.Ytmbgidfngefniaa

open Go.RowKit

set_option linter.unusedVariables false

set_option linter.unusedSimpArgs false

theorem okoData : OkData oData := ⟨⟨by decide, by decide⟩, ⟨by decide, by decide⟩, fun j hj => bd_zero j _ hj, okoCheckpoint, okoCheckpoint⟩

end Go.Proofs.Ytmbgidfngefniaa

namespace Go.Proofs.Ytmbgidfngefniaa

open Go.RowKit

set_option linter.unusedVariables false

set_option linter.unusedSimpArgs false

set_option maxRecDepth 100000 in
theorem open_Data {H : Type} {enc : TypeId × Value → H} {W w : World} {r : Reach} {base b0 : Nat} {sp : Nat → Bool} {held : Bool} {v : Value} {d : DataW H} {p : List MemPlace}
    (hv : Value.okWide Try.prog W r base 51 v) (h : DataW.Trod enc Try.prog w b0 sp held 51 v d p) : ∃ x : VData, v = .agg (cel (sData x)) ∧ OkData x := by
  obtain ⟨cs, rfl, hs, xs, n, hxl, hat⟩ := open_str Try.underlying51 hv h
  have hsz : cs.size = 100 := hs.trans (by kernel_rfl)
  have hsl : cs.toList.length = 100 := by rw [Array.length_toList]; exact hsz
  have hx : xs.length = 5 := hxl
  have h0 := hat 0 _ rfl
  rw [List.getElem?_eq_getElem (by omega)] at h0
  have c0 : Try.prog.cellsOf 22 = 1 := by kernel_rfl
  replace h0 : DataW.trod enc Try.prog w b0 sp held n 22 ((cs.toList.drop 0).take (Try.prog.cellsOf 22)) = some xs[0] := h0
  rw [c0] at h0
  obtain ⟨f0, e0, _, w0⟩ := DataW.trod_int Try.underlying22 h0
  have k0 := bounds_u64 w0
  have h1 := hat 1 _ rfl
  rw [List.getElem?_eq_getElem (by omega)] at h1
  have c1 : Try.prog.cellsOf 22 = 1 := by kernel_rfl
  replace h1 : DataW.trod enc Try.prog w b0 sp held n 22 ((cs.toList.drop 1).take (Try.prog.cellsOf 22)) = some xs[1] := h1
  rw [c1] at h1
  obtain ⟨f1, e1, _, w1⟩ := DataW.trod_int Try.underlying22 h1
  have k1 := bounds_u64 w1
  have h2 := hat 2 _ rfl
  rw [List.getElem?_eq_getElem (by omega)] at h2
  have c2 : Try.prog.cellsOf 24 = 32 := by kernel_rfl
  replace h2 : DataW.trod enc Try.prog w b0 sp held n 24 ((cs.toList.drop 2).take (Try.prog.cellsOf 24)) = some xs[2] := h2
  rw [c2] at h2
  obtain ⟨f2, e2, k2⟩ := lst_by Try.underlying24 Try.underlying5 (by kernel_rfl) (by rw [List.length_take, List.length_drop, hsl]; rfl) h2
  have h3 := hat 3 _ rfl
  rw [List.getElem?_eq_getElem (by omega)] at h3
  have c3 : Try.prog.cellsOf 42 = 33 := by kernel_rfl
  replace h3 : DataW.trod enc Try.prog w b0 sp held n 42 ((cs.toList.drop 34).take (Try.prog.cellsOf 42)) = some xs[3] := h3
  rw [c3] at h3
  obtain ⟨f3, e3, k3⟩ := opl_Checkpoint (by rw [List.length_take, List.length_drop, hsl]; rfl) h3
  have h4 := hat 4 _ rfl
  rw [List.getElem?_eq_getElem (by omega)] at h4
  have c4 : Try.prog.cellsOf 42 = 33 := by kernel_rfl
  replace h4 : DataW.trod enc Try.prog w b0 sp held n 42 ((cs.toList.drop 67).take (Try.prog.cellsOf 42)) = some xs[4] := h4
  rw [c4] at h4
  obtain ⟨f4, e4, k4⟩ := opl_Checkpoint (by rw [List.length_take, List.length_drop, hsl]; rfl) h4
  have el : cs.toList.drop 0 = (cs.toList.drop 0).take 1 ++ ((cs.toList.drop 1).take 1 ++ ((cs.toList.drop 2).take 32 ++ ((cs.toList.drop 34).take 33 ++ ((cs.toList.drop 67).take 33 ++ ([]))))) := ((cut_list cs.toList 0 1).trans (congrArg _ ((cut_list cs.toList 1 1).trans (congrArg _ ((cut_list cs.toList 2 32).trans (congrArg _ ((cut_list cs.toList 34 33).trans (congrArg _ ((cut_list cs.toList 67 33).trans (congrArg _ (List.drop_eq_nil_of_le (by rw [hsl]; exact Nat.le_refl _))))))))))))
  rw [e0, e1, e2, e3, e4] at el
  refine ⟨⟨f0, f1, f2, f3, f4⟩, ?_, ⟨k0.1, Int.lt_of_le_of_lt k0.2 (by decide)⟩, ⟨k1.1, Int.lt_of_le_of_lt k1.2 (by decide)⟩, k2, k3, k4⟩
  congr 1
  apply Array.ext'
  exact el

end Go.Proofs.Ytmbgidfngefniaa
