/-
  Values read and bytes, both Reads, the argument opened.
-/
import Derived.Test.YtaodonmbanpieaaDoorCoA
import Derived.Test.YtaodonmbanpieaaDoorCoB
import Derived.Test.YtaodonmbanpieaaDoorCoC
import Derived.Test.YtaodonmbanpieaaDoorThFork
import Derived.Test.YtaodonmbanpieaaDoorTrFork
namespace Go.Proofs.YtaodonmbanpieaaDoor
open Go.RowKit
set_option linter.unusedVariables false
set_option linter.unusedSimpArgs false

theorem okpFork (m : Nat → Int) (hm : ∀ j, 0 ≤ m j ∧ m j < 256) : OkFork (pFork m) := ⟨fun j _ => hm (0 + j), fun j _ => hm (4 + j), rdN_bd (f := fun q => m (8 + q)) (fun j _ => hm (8 + j))⟩

theorem epFork (m : Nat → Int) (hm : ∀ j, 0 ≤ m j ∧ m j < 256) (q : Nat) (hq : q < 16) : ct7 (eFork (pFork m)) q = m q := by
  simp only [eFork, pFork, ct7]
  by_cases h0 : q < 4
  · rw [if_pos h0]; exact congrArg m (by omega)
  rw [if_neg h0]
  by_cases h1 : q - 4 < 4
  · rw [if_pos h1]; exact congrArg m (by omega)
  rw [if_neg h1]
  by_cases h2 : q - 4 - 4 < 8
  · rw [if_pos h2, nm_rd (fun q => m (8 + q)) (fun j _ => hm (8 + j)) _ h2]; exact congrArg m (by omega)
  rw [if_neg h2]
  omega

end Go.Proofs.YtaodonmbanpieaaDoor
namespace Go.Proofs.YtaodonmbanpieaaDoor
open Go.RowKit
set_option linter.unusedVariables false
set_option linter.unusedSimpArgs false

set_option maxRecDepth 100000 in
theorem open_Fork {H : Type} {enc : TypeId × Value → H} {W w : World} {r : Reach} {base b0 : Nat} {sp : Nat → Bool} {held : Bool} {v : Value} {d : DataW H} {p : List MemPlace}
    (hv : Value.okWide Tryd.prog W r base 26 v) (h : DataW.Trod enc Tryd.prog w b0 sp held 26 v d p) : ∃ x : VFork, v = .agg (cel (sFork x)) ∧ OkFork x := by
  obtain ⟨cs, rfl, hs, xs, n, hxl, hat⟩ := open_str Tryd.underlying26 hv h
  have hsz : cs.size = 9 := hs.trans (by kernel_rfl)
  have hx : xs.length = 3 := hxl
  have h0 := hat 0 _ rfl
  rw [List.getElem?_eq_getElem (by omega)] at h0
  have c0 : Tryd.prog.cellsOf 23 = 4 := by kernel_rfl
  replace h0 : DataW.trod enc Tryd.prog w b0 sp held n 23 ((cs.toList.drop 0).take (Tryd.prog.cellsOf 23)) = some xs[0] := h0
  rw [c0] at h0
  obtain ⟨f0, e0, k0⟩ := lst_by Tryd.underlying23 Tryd.underlying5 (by kernel_rfl) (by rw [List.length_take, List.length_drop, Array.length_toList, hsz]; rfl) h0
  have h1 := hat 1 _ rfl
  rw [List.getElem?_eq_getElem (by omega)] at h1
  have c1 : Tryd.prog.cellsOf 23 = 4 := by kernel_rfl
  replace h1 : DataW.trod enc Tryd.prog w b0 sp held n 23 ((cs.toList.drop 4).take (Tryd.prog.cellsOf 23)) = some xs[1] := h1
  rw [c1] at h1
  obtain ⟨f1, e1, k1⟩ := lst_by Tryd.underlying23 Tryd.underlying5 (by kernel_rfl) (by rw [List.length_take, List.length_drop, Array.length_toList, hsz]; rfl) h1
  have h2 := hat 2 _ rfl
  rw [List.getElem?_eq_getElem (by omega)] at h2
  have c2 : Tryd.prog.cellsOf 24 = 1 := by kernel_rfl
  replace h2 : DataW.trod enc Tryd.prog w b0 sp held n 24 ((cs.toList.drop 8).take (Tryd.prog.cellsOf 24)) = some xs[2] := h2
  rw [c2] at h2
  obtain ⟨f2, e2, _, w2⟩ := DataW.trod_int Tryd.underlying24 h2
  have k2 := bounds_u64 w2
  have el : cs.toList.drop 0 = (cs.toList.drop 0).take 4 ++ ((cs.toList.drop 4).take 4 ++ ((cs.toList.drop 8).take 1 ++ ([]))) := ((cut_list cs.toList 0 4).trans (congrArg _ ((cut_list cs.toList 4 4).trans (congrArg _ ((cut_list cs.toList 8 1).trans (congrArg _ (List.drop_eq_nil_of_le (by rw [Array.length_toList, hsz]; exact Nat.le_refl _))))))))
  rw [e0, e1, e2] at el
  refine ⟨⟨f0, f1, f2⟩, ?_, k0, k1, ⟨k2.1, Int.lt_of_le_of_lt k2.2 (by decide)⟩⟩
  congr 1
  apply Array.ext'
  exact el

end Go.Proofs.YtaodonmbanpieaaDoor
namespace Go.Proofs.YtaodonmbanpieaaDoor
open Go.RowKit
set_option linter.unusedVariables false
set_option linter.unusedSimpArgs false

theorem okoFork : OkFork oFork := ⟨fun j hj => bd_zero j _ hj, fun j hj => bd_zero j _ hj, ⟨by decide, by decide⟩⟩

theorem ebdFork (x : VFork) (hx : OkFork x) (q : Nat) : 0 ≤ ct7 (eFork x) q ∧ ct7 (eFork x) q < 256 := by
  obtain ⟨h0, h1, h2⟩ := hx
  simp only [eFork, ct7]
  by_cases c0 : q < 4
  · rw [if_pos c0]; exact h0 _ c0
  rw [if_neg c0]
  by_cases c1 : q - 4 < 4
  · rw [if_pos c1]; exact h1 _ c1
  rw [if_neg c1]
  by_cases c2 : q - 4 - 4 < 8
  · rw [if_pos c2]; exact nmB_bd _ _
  rw [if_neg c2]
  exact ⟨Int.le_refl _, by decide⟩

theorem rdFork (m : Nat → Int) (hm : ∀ j, 0 ≤ m j ∧ m j < 256) (len : Nat) (hlen : len ≤ 140737488351232) : ∃ (V : VFork) (E : Int), OkFork V ∧ (E = 0 → len = 16 ∧ ∀ q, q < 16 → ct7 (eFork V) q = m q) ∧ (len = 16 → E = 0) ∧
    (∀ (w : World) ao cap, Bys w ao len cap m → len ≤ cap → cap ≤ 9223372036854775807 → Calls Tryd.prog 14 #[.slice ao len cap] w fun e w' => e = .returned (.tuple #[.agg (cel (sFork V)), .int .i64 E]) ∧ Below w.heap.size w w') ∧
    (∀ (w : World) ao cap, Bys w ao len cap m → len ≤ cap → cap ≤ 9223372036854775807 → Calls Tryd.prog 15 #[.slice ao len cap] w fun e w' => e = .returned (.tuple #[.agg (cel (sFork V)), .int .i64 E]) ∧ Below w.heap.size w w') := by
  by_cases h : len = 16
  · subst h
    exact ⟨pFork m, 0, okpFork m hm, fun _ => ⟨rfl, fun q hq => epFork m hm q hq⟩, fun _ => rfl, fun w ao cap h1 h2 h3 => readFork_ok m ao cap w h1 hm h2 h3, fun w ao cap h1 h2 h3 => rreadFork_ok m ao cap w h1 hm h2 h3⟩
  · exact ⟨oFork, 4, okoFork, fun h0 => absurd h0 (by decide), fun h0 => absurd h0 h, fun w ao cap h1 h2 h3 => readFork_no m ao len cap w h1 hm h2 h3 hlen h, fun w ao cap h1 h2 h3 => rreadFork_no m ao len cap w h1 hm h2 h3 hlen h⟩

end Go.Proofs.YtaodonmbanpieaaDoor
