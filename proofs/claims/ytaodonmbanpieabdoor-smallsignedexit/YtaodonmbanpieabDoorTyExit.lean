/-
  Values read and bytes, both Reads, the argument opened.
-/
import Derived.Test.YtaodonmbanpieabDoorCoA
import Derived.Test.YtaodonmbanpieabDoorCoB
import Derived.Test.YtaodonmbanpieabDoorCoC
import Derived.Test.YtaodonmbanpieabDoorThExit
import Derived.Test.YtaodonmbanpieabDoorTrExit
namespace Go.Proofs.YtaodonmbanpieabDoor
open Go.RowKit
set_option linter.unusedVariables false
set_option linter.unusedSimpArgs false

theorem okpExit (m : Nat → Int) (hm : ∀ j, 0 ≤ m j ∧ m j < 256) : OkExit (pExit m) := ⟨rdN_bd (f := fun q => m (0 + q)) (fun j _ => hm (0 + j)), rdN_bd (f := fun q => m (8 + q)) (fun j _ => hm (8 + j))⟩

theorem epExit (m : Nat → Int) (hm : ∀ j, 0 ≤ m j ∧ m j < 256) (q : Nat) (hq : q < 16) : ct7 (eExit (pExit m)) q = m q := by
  simp only [eExit, pExit, ct7]
  by_cases h0 : q < 8
  · rw [if_pos h0, nm_rd (fun q => m (0 + q)) (fun j _ => hm (0 + j)) _ h0]; exact congrArg m (by omega)
  rw [if_neg h0]
  by_cases h1 : q - 8 < 8
  · rw [if_pos h1, nm_rd (fun q => m (8 + q)) (fun j _ => hm (8 + j)) _ h1]; exact congrArg m (by omega)
  rw [if_neg h1]
  omega

end Go.Proofs.YtaodonmbanpieabDoor
namespace Go.Proofs.YtaodonmbanpieabDoor
open Go.RowKit
set_option linter.unusedVariables false
set_option linter.unusedSimpArgs false

set_option maxRecDepth 100000 in
theorem open_Exit {H : Type} {enc : TypeId × Value → H} {W w : World} {r : Reach} {base b0 : Nat} {sp : Nat → Bool} {held : Bool} {v : Value} {d : DataW H} {p : List MemPlace}
    (hv : Value.okWide Tryd.prog W r base 55 v) (h : DataW.Trod enc Tryd.prog w b0 sp held 55 v d p) : ∃ x : VExit, v = .agg (cel (sExit x)) ∧ OkExit x := by
  obtain ⟨cs, rfl, hs, xs, n, hxl, hat⟩ := open_str Tryd.underlying55 hv h
  have hsz : cs.size = 2 := hs.trans (by kernel_rfl)
  have hx : xs.length = 2 := hxl
  have h0 := hat 0 _ rfl
  rw [List.getElem?_eq_getElem (by omega)] at h0
  have c0 : Tryd.prog.cellsOf 22 = 1 := by kernel_rfl
  replace h0 : DataW.trod enc Tryd.prog w b0 sp held n 22 ((cs.toList.drop 0).take (Tryd.prog.cellsOf 22)) = some xs[0] := h0
  rw [c0] at h0
  obtain ⟨f0, e0, _, w0⟩ := DataW.trod_int Tryd.underlying22 h0
  have k0 := bounds_u64 w0
  have h1 := hat 1 _ rfl
  rw [List.getElem?_eq_getElem (by omega)] at h1
  have c1 : Tryd.prog.cellsOf 22 = 1 := by kernel_rfl
  replace h1 : DataW.trod enc Tryd.prog w b0 sp held n 22 ((cs.toList.drop 1).take (Tryd.prog.cellsOf 22)) = some xs[1] := h1
  rw [c1] at h1
  obtain ⟨f1, e1, _, w1⟩ := DataW.trod_int Tryd.underlying22 h1
  have k1 := bounds_u64 w1
  have el : cs.toList.drop 0 = (cs.toList.drop 0).take 1 ++ ((cs.toList.drop 1).take 1 ++ ([])) := ((cut_list cs.toList 0 1).trans (congrArg _ ((cut_list cs.toList 1 1).trans (congrArg _ (List.drop_eq_nil_of_le (by rw [Array.length_toList, hsz]; exact Nat.le_refl _))))))
  rw [e0, e1] at el
  refine ⟨⟨f0, f1⟩, ?_, ⟨k0.1, Int.lt_of_le_of_lt k0.2 (by decide)⟩, ⟨k1.1, Int.lt_of_le_of_lt k1.2 (by decide)⟩⟩
  congr 1
  apply Array.ext'
  exact el

end Go.Proofs.YtaodonmbanpieabDoor
namespace Go.Proofs.YtaodonmbanpieabDoor
open Go.RowKit
set_option linter.unusedVariables false
set_option linter.unusedSimpArgs false

theorem okoExit : OkExit oExit := ⟨⟨by decide, by decide⟩, ⟨by decide, by decide⟩⟩

theorem ebdExit (x : VExit) (hx : OkExit x) (q : Nat) : 0 ≤ ct7 (eExit x) q ∧ ct7 (eExit x) q < 256 := by
  obtain ⟨h0, h1⟩ := hx
  simp only [eExit, ct7]
  by_cases c0 : q < 8
  · rw [if_pos c0]; exact nmB_bd _ _
  rw [if_neg c0]
  by_cases c1 : q - 8 < 8
  · rw [if_pos c1]; exact nmB_bd _ _
  rw [if_neg c1]
  exact ⟨Int.le_refl _, by decide⟩

theorem rdExit (m : Nat → Int) (hm : ∀ j, 0 ≤ m j ∧ m j < 256) (len : Nat) (hlen : len ≤ 140737488351232) : ∃ (V : VExit) (E : Int), OkExit V ∧ (E = 0 → len = 16 ∧ ∀ q, q < 16 → ct7 (eExit V) q = m q) ∧ (len = 16 → E = 0) ∧
    (∀ (w : World) ao cap, Bys w ao len cap m → len ≤ cap → cap ≤ 9223372036854775807 → Calls Tryd.prog 26 #[.slice ao len cap] w fun e w' => e = .returned (.tuple #[.agg (cel (sExit V)), .int .i64 E]) ∧ Below w.heap.size w w') ∧
    (∀ (w : World) ao cap, Bys w ao len cap m → len ≤ cap → cap ≤ 9223372036854775807 → Calls Tryd.prog 27 #[.slice ao len cap] w fun e w' => e = .returned (.tuple #[.agg (cel (sExit V)), .int .i64 E]) ∧ Below w.heap.size w w') := by
  by_cases h : len = 16
  · subst h
    exact ⟨pExit m, 0, okpExit m hm, fun _ => ⟨rfl, fun q hq => epExit m hm q hq⟩, fun _ => rfl, fun w ao cap h1 h2 h3 => readExit_ok m ao cap w h1 hm h2 h3, fun w ao cap h1 h2 h3 => rreadExit_ok m ao cap w h1 hm h2 h3⟩
  · exact ⟨oExit, 4, okoExit, fun h0 => absurd h0 (by decide), fun h0 => absurd h0 h, fun w ao cap h1 h2 h3 => readExit_no m ao len cap w h1 hm h2 h3 hlen h, fun w ao cap h1 h2 h3 => rreadExit_no m ao len cap w h1 hm h2 h3 hlen h⟩

end Go.Proofs.YtaodonmbanpieabDoor
namespace Go.Proofs.YtaodonmbanpieabDoor
open Go.RowKit
set_option linter.unusedVariables false
set_option linter.unusedSimpArgs false

set_option maxRecDepth 100000 in
theorem opl_Exit {H : Type} {enc : TypeId × Value → H} {w : World} {b0 fuel : Nat} {sp : Nat → Bool} {held : Bool} {cs : List Value} {y : DataW H × List MemPlace}
    (hsl : cs.length = 2) (h : DataW.trod enc Tryd.prog w b0 sp held fuel 55 cs = some y) : ∃ x : VExit, cs = celL (sExit x) ∧ OkExit x := by
  obtain ⟨xs, n, _, _, _, hxl, hat⟩ := DataW.trod_struct Tryd.underlying55 h
  have hx : xs.length = 2 := hxl
  have h0 := hat 0 _ rfl
  rw [List.getElem?_eq_getElem (by omega)] at h0
  have c0 : Tryd.prog.cellsOf 22 = 1 := by kernel_rfl
  replace h0 : DataW.trod enc Tryd.prog w b0 sp held n 22 ((cs.drop 0).take (Tryd.prog.cellsOf 22)) = some xs[0] := h0
  rw [c0] at h0
  obtain ⟨f0, e0, _, w0⟩ := DataW.trod_int Tryd.underlying22 h0
  have k0 := bounds_u64 w0
  have h1 := hat 1 _ rfl
  rw [List.getElem?_eq_getElem (by omega)] at h1
  have c1 : Tryd.prog.cellsOf 22 = 1 := by kernel_rfl
  replace h1 : DataW.trod enc Tryd.prog w b0 sp held n 22 ((cs.drop 1).take (Tryd.prog.cellsOf 22)) = some xs[1] := h1
  rw [c1] at h1
  obtain ⟨f1, e1, _, w1⟩ := DataW.trod_int Tryd.underlying22 h1
  have k1 := bounds_u64 w1
  have el : cs.drop 0 = (cs.drop 0).take 1 ++ ((cs.drop 1).take 1 ++ ([])) := ((cut_list cs 0 1).trans (congrArg _ ((cut_list cs 1 1).trans (congrArg _ (List.drop_eq_nil_of_le (by rw [hsl]; exact Nat.le_refl _))))))
  rw [e0, e1] at el
  refine ⟨⟨f0, f1⟩, ?_, ⟨k0.1, Int.lt_of_le_of_lt k0.2 (by decide)⟩, ⟨k1.1, Int.lt_of_le_of_lt k1.2 (by decide)⟩⟩
  exact el

end Go.Proofs.YtaodonmbanpieabDoor
