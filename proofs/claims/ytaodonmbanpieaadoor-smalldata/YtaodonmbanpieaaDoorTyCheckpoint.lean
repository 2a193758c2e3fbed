/-
  Values read and bytes, both Reads, the argument opened.
-/
import Derived.Test.YtaodonmbanpieaaDoorCoA
import Derived.Test.YtaodonmbanpieaaDoorCoB
import Derived.Test.YtaodonmbanpieaaDoorCoC
import Derived.Test.YtaodonmbanpieaaDoorThCheckpoint
import Derived.Test.YtaodonmbanpieaaDoorTrCheckpoint
namespace Go.Proofs.YtaodonmbanpieaaDoor
open Go.RowKit
set_option linter.unusedVariables false
set_option linter.unusedSimpArgs false

theorem okpCheckpoint (m : Nat → Int) (hm : ∀ j, 0 ≤ m j ∧ m j < 256) : OkCheckpoint (pCheckpoint m) := ⟨rdN_bd (f := fun q => m (0 + q)) (fun j _ => hm (0 + j)), fun j _ => hm (8 + j)⟩

theorem epCheckpoint (m : Nat → Int) (hm : ∀ j, 0 ≤ m j ∧ m j < 256) (q : Nat) (hq : q < 40) : ct7 (eCheckpoint (pCheckpoint m)) q = m q := by
  simp only [eCheckpoint, pCheckpoint, ct7]
  by_cases h0 : q < 8
  · rw [if_pos h0, nm_rd (fun q => m (0 + q)) (fun j _ => hm (0 + j)) _ h0]; exact congrArg m (by omega)
  rw [if_neg h0]
  by_cases h1 : q - 8 < 32
  · rw [if_pos h1]; exact congrArg m (by omega)
  rw [if_neg h1]
  omega

end Go.Proofs.YtaodonmbanpieaaDoor
namespace Go.Proofs.YtaodonmbanpieaaDoor
open Go.RowKit
set_option linter.unusedVariables false
set_option linter.unusedSimpArgs false

set_option maxRecDepth 100000 in
theorem open_Checkpoint {H : Type} {enc : TypeId × Value → H} {W w : World} {r : Reach} {base b0 : Nat} {sp : Nat → Bool} {held : Bool} {v : Value} {d : DataW H} {p : List MemPlace}
    (hv : Value.okWide Tryd.prog W r base 42 v) (h : DataW.Trod enc Tryd.prog w b0 sp held 42 v d p) : ∃ x : VCheckpoint, v = .agg (cel (sCheckpoint x)) ∧ OkCheckpoint x := by
  obtain ⟨cs, rfl, hs, xs, n, hxl, hat⟩ := open_str Tryd.underlying42 hv h
  have hsz : cs.size = 33 := hs.trans (by kernel_rfl)
  have hx : xs.length = 2 := hxl
  have h0 := hat 0 _ rfl
  rw [List.getElem?_eq_getElem (by omega)] at h0
  have c0 : Tryd.prog.cellsOf 24 = 1 := by kernel_rfl
  replace h0 : DataW.trod enc Tryd.prog w b0 sp held n 24 ((cs.toList.drop 0).take (Tryd.prog.cellsOf 24)) = some xs[0] := h0
  rw [c0] at h0
  obtain ⟨f0, e0, _, w0⟩ := DataW.trod_int Tryd.underlying24 h0
  have k0 := bounds_u64 w0
  have h1 := hat 1 _ rfl
  rw [List.getElem?_eq_getElem (by omega)] at h1
  have c1 : Tryd.prog.cellsOf 31 = 32 := by kernel_rfl
  replace h1 : DataW.trod enc Tryd.prog w b0 sp held n 31 ((cs.toList.drop 1).take (Tryd.prog.cellsOf 31)) = some xs[1] := h1
  rw [c1] at h1
  obtain ⟨f1, e1, k1⟩ := lst_by Tryd.underlying31 Tryd.underlying5 (by kernel_rfl) (by rw [List.length_take, List.length_drop, Array.length_toList, hsz]; rfl) h1
  have el : cs.toList.drop 0 = (cs.toList.drop 0).take 1 ++ ((cs.toList.drop 1).take 32 ++ ([])) := ((cut_list cs.toList 0 1).trans (congrArg _ ((cut_list cs.toList 1 32).trans (congrArg _ (List.drop_eq_nil_of_le (by rw [Array.length_toList, hsz]; exact Nat.le_refl _))))))
  rw [e0, e1] at el
  refine ⟨⟨f0, f1⟩, ?_, ⟨k0.1, Int.lt_of_le_of_lt k0.2 (by decide)⟩, k1⟩
  congr 1
  apply Array.ext'
  exact el

end Go.Proofs.YtaodonmbanpieaaDoor
namespace Go.Proofs.YtaodonmbanpieaaDoor
open Go.RowKit
set_option linter.unusedVariables false
set_option linter.unusedSimpArgs false

theorem okoCheckpoint : OkCheckpoint oCheckpoint := ⟨⟨by decide, by decide⟩, fun j hj => bd_zero j _ hj⟩

theorem ebdCheckpoint (x : VCheckpoint) (hx : OkCheckpoint x) (q : Nat) : 0 ≤ ct7 (eCheckpoint x) q ∧ ct7 (eCheckpoint x) q < 256 := by
  obtain ⟨h0, h1⟩ := hx
  simp only [eCheckpoint, ct7]
  by_cases c0 : q < 8
  · rw [if_pos c0]; exact nmB_bd _ _
  rw [if_neg c0]
  by_cases c1 : q - 8 < 32
  · rw [if_pos c1]; exact h1 _ c1
  rw [if_neg c1]
  exact ⟨Int.le_refl _, by decide⟩

theorem rdCheckpoint (m : Nat → Int) (hm : ∀ j, 0 ≤ m j ∧ m j < 256) (len : Nat) (hlen : len ≤ 140737488351232) : ∃ (V : VCheckpoint) (E : Int), OkCheckpoint V ∧ (E = 0 → len = 40 ∧ ∀ q, q < 40 → ct7 (eCheckpoint V) q = m q) ∧ (len = 40 → E = 0) ∧
    (∀ (w : World) ao cap, Bys w ao len cap m → len ≤ cap → cap ≤ 9223372036854775807 → Calls Tryd.prog 20 #[.slice ao len cap] w fun e w' => e = .returned (.tuple #[.agg (cel (sCheckpoint V)), .int .i64 E]) ∧ Below w.heap.size w w') ∧
    (∀ (w : World) ao cap, Bys w ao len cap m → len ≤ cap → cap ≤ 9223372036854775807 → Calls Tryd.prog 21 #[.slice ao len cap] w fun e w' => e = .returned (.tuple #[.agg (cel (sCheckpoint V)), .int .i64 E]) ∧ Below w.heap.size w w') := by
  by_cases h : len = 40
  · subst h
    exact ⟨pCheckpoint m, 0, okpCheckpoint m hm, fun _ => ⟨rfl, fun q hq => epCheckpoint m hm q hq⟩, fun _ => rfl, fun w ao cap h1 h2 h3 => readCheckpoint_ok m ao cap w h1 hm h2 h3, fun w ao cap h1 h2 h3 => rreadCheckpoint_ok m ao cap w h1 hm h2 h3⟩
  · exact ⟨oCheckpoint, 4, okoCheckpoint, fun h0 => absurd h0 (by decide), fun h0 => absurd h0 h, fun w ao cap h1 h2 h3 => readCheckpoint_no m ao len cap w h1 hm h2 h3 hlen h, fun w ao cap h1 h2 h3 => rreadCheckpoint_no m ao len cap w h1 hm h2 h3 hlen h⟩

end Go.Proofs.YtaodonmbanpieaaDoor
namespace Go.Proofs.YtaodonmbanpieaaDoor
open Go.RowKit
set_option linter.unusedVariables false
set_option linter.unusedSimpArgs false

set_option maxRecDepth 100000 in
theorem opl_Checkpoint {H : Type} {enc : TypeId × Value → H} {w : World} {b0 fuel : Nat} {sp : Nat → Bool} {held : Bool} {cs : List Value} {y : DataW H × List MemPlace}
    (hsl : cs.length = 33) (h : DataW.trod enc Tryd.prog w b0 sp held fuel 42 cs = some y) : ∃ x : VCheckpoint, cs = celL (sCheckpoint x) ∧ OkCheckpoint x := by
  obtain ⟨xs, n, _, _, _, hxl, hat⟩ := DataW.trod_struct Tryd.underlying42 h
  have hx : xs.length = 2 := hxl
  have h0 := hat 0 _ rfl
  rw [List.getElem?_eq_getElem (by omega)] at h0
  have c0 : Tryd.prog.cellsOf 24 = 1 := by kernel_rfl
  replace h0 : DataW.trod enc Tryd.prog w b0 sp held n 24 ((cs.drop 0).take (Tryd.prog.cellsOf 24)) = some xs[0] := h0
  rw [c0] at h0
  obtain ⟨f0, e0, _, w0⟩ := DataW.trod_int Tryd.underlying24 h0
  have k0 := bounds_u64 w0
  have h1 := hat 1 _ rfl
  rw [List.getElem?_eq_getElem (by omega)] at h1
  have c1 : Tryd.prog.cellsOf 31 = 32 := by kernel_rfl
  replace h1 : DataW.trod enc Tryd.prog w b0 sp held n 31 ((cs.drop 1).take (Tryd.prog.cellsOf 31)) = some xs[1] := h1
  rw [c1] at h1
  obtain ⟨f1, e1, k1⟩ := lst_by Tryd.underlying31 Tryd.underlying5 (by kernel_rfl) (by rw [List.length_take, List.length_drop, hsl]; rfl) h1
  have el : cs.drop 0 = (cs.drop 0).take 1 ++ ((cs.drop 1).take 32 ++ ([])) := ((cut_list cs 0 1).trans (congrArg _ ((cut_list cs 1 32).trans (congrArg _ (List.drop_eq_nil_of_le (by rw [hsl]; exact Nat.le_refl _))))))
  rw [e0, e1] at el
  refine ⟨⟨f0, f1⟩, ?_, ⟨k0.1, Int.lt_of_le_of_lt k0.2 (by decide)⟩, k1⟩
  exact el

end Go.Proofs.YtaodonmbanpieaaDoor
