/-
  Values read and bytes, both Reads, the argument opened.
-/

import Derived.Test.YtmbgidfngefniaaCoA
import Derived.Test.YtmbgidfngefniaaCoB
import Derived.Test.YtmbgidfngefniaaCoC
namespace Go.Proofs.Ytmbgidfngefniaa

open Go.RowKit

set_option linter.unusedVariables false

set_option linter.unusedSimpArgs false

end Go.Proofs.Ytmbgidfngefniaa

namespace Go.Proofs.Ytmbgidfngefniaa

open Go.RowKit

set_option linter.unusedVariables false

set_option linter.unusedSimpArgs false

end Go.Proofs.Ytmbgidfngefniaa

namespace Go.Proofs.Ytmbgidfngefniaa

open Go.RowKit

set_option linter.unusedVariables false

set_option linter.unusedSimpArgs false

theorem okoCheckpoint : OkCheckpoint oCheckpoint := ⟨⟨by decide, by decide⟩, fun j hj => bd_zero j _ hj⟩

end Go.Proofs.Ytmbgidfngefniaa

namespace Go.Proofs.Ytmbgidfngefniaa

open Go.RowKit

set_option linter.unusedVariables false

set_option linter.unusedSimpArgs false

set_option maxRecDepth 100000 in
theorem opl_Checkpoint {H : Type} {enc : TypeId × Value → H} {w : World} {b0 fuel : Nat} {sp : Nat → Bool} {held : Bool} {cs : List Value} {y : DataW H × List MemPlace}
    (hsl : cs.length = 33) (h : DataW.trod enc Try.prog w b0 sp held fuel 42 cs = some y) : ∃ x : VCheckpoint, cs = celL (sCheckpoint x) ∧ OkCheckpoint x := by
  obtain ⟨xs, n, _, _, _, hxl, hat⟩ := DataW.trod_struct Try.underlying42 h
  have hx : xs.length = 2 := hxl
  have h0 := hat 0 _ rfl
  rw [List.getElem?_eq_getElem (by omega)] at h0
  have c0 : Try.prog.cellsOf 22 = 1 := by kernel_rfl
  replace h0 : DataW.trod enc Try.prog w b0 sp held n 22 ((cs.drop 0).take (Try.prog.cellsOf 22)) = some xs[0] := h0
  rw [c0] at h0
  obtain ⟨f0, e0, _, w0⟩ := DataW.trod_int Try.underlying22 h0
  have k0 := bounds_u64 w0
  have h1 := hat 1 _ rfl
  rw [List.getElem?_eq_getElem (by omega)] at h1
  have c1 : Try.prog.cellsOf 24 = 32 := by kernel_rfl
  replace h1 : DataW.trod enc Try.prog w b0 sp held n 24 ((cs.drop 1).take (Try.prog.cellsOf 24)) = some xs[1] := h1
  rw [c1] at h1
  obtain ⟨f1, e1, k1⟩ := lst_by Try.underlying24 Try.underlying5 (by kernel_rfl) (by rw [List.length_take, List.length_drop, hsl]; rfl) h1
  have el : cs.drop 0 = (cs.drop 0).take 1 ++ ((cs.drop 1).take 32 ++ ([])) := ((cut_list cs 0 1).trans (congrArg _ ((cut_list cs 1 32).trans (congrArg _ (List.drop_eq_nil_of_le (by rw [hsl]; exact Nat.le_refl _))))))
  rw [e0, e1] at el
  refine ⟨⟨f0, f1⟩, ?_, ⟨k0.1, Int.lt_of_le_of_lt k0.2 (by decide)⟩, k1⟩
  exact el

end Go.Proofs.Ytmbgidfngefniaa
