/-
  Values read and bytes, both Reads, the argument opened.
-/
import Derived.Test.YtaodonmbanpieaaDoorCoA
import Derived.Test.YtaodonmbanpieaaDoorCoB
import Derived.Test.YtaodonmbanpieaaDoorCoC
import Derived.Test.YtaodonmbanpieaaDoorThEth1
import Derived.Test.YtaodonmbanpieaaDoorTrEth1
namespace Go.Proofs.YtaodonmbanpieaaDoor
open Go.RowKit
set_option linter.unusedVariables false
set_option linter.unusedSimpArgs false

theorem okpEth1 (m : Nat → Int) (hm : ∀ j, 0 ≤ m j ∧ m j < 256) : OkEth1 (pEth1 m) := ⟨fun j _ => hm (0 + j), rdN_bd (f := fun q => m (32 + q)) (fun j _ => hm (32 + j)), fun j _ => hm (40 + j)⟩

theorem epEth1 (m : Nat → Int) (hm : ∀ j, 0 ≤ m j ∧ m j < 256) (q : Nat) (hq : q < 72) : ct7 (eEth1 (pEth1 m)) q = m q := by
  simp only [eEth1, pEth1, ct7]
  by_cases h0 : q < 32
  · rw [if_pos h0]; exact congrArg m (by omega)
  rw [if_neg h0]
  by_cases h1 : q - 32 < 8
  · rw [if_pos h1, nm_rd (fun q => m (32 + q)) (fun j _ => hm (32 + j)) _ h1]; exact congrArg m (by omega)
  rw [if_neg h1]
  by_cases h2 : q - 32 - 8 < 32
  · rw [if_pos h2]; exact congrArg m (by omega)
  rw [if_neg h2]
  omega

end Go.Proofs.YtaodonmbanpieaaDoor
namespace Go.Proofs.YtaodonmbanpieaaDoor
open Go.RowKit
set_option linter.unusedVariables false
set_option linter.unusedSimpArgs false

set_option maxRecDepth 100000 in
theorem open_Eth1 {H : Type} {enc : TypeId × Value → H} {W w : World} {r : Reach} {base b0 : Nat} {sp : Nat → Bool} {held : Bool} {v : Value} {d : DataW H} {p : List MemPlace}
    (hv : Value.okWide Tryd.prog W r base 71 v) (h : DataW.Trod enc Tryd.prog w b0 sp held 71 v d p) : ∃ x : VEth1, v = .agg (cel (sEth1 x)) ∧ OkEth1 x := by
  obtain ⟨cs, rfl, hs, xs, n, hxl, hat⟩ := open_str Tryd.underlying71 hv h
  have hsz : cs.size = 65 := hs.trans (by kernel_rfl)
  have hx : xs.length = 3 := hxl
  have h0 := hat 0 _ rfl
  rw [List.getElem?_eq_getElem (by omega)] at h0
  have c0 : Tryd.prog.cellsOf 31 = 32 := by kernel_rfl
  replace h0 : DataW.trod enc Tryd.prog w b0 sp held n 31 ((cs.toList.drop 0).take (Tryd.prog.cellsOf 31)) = some xs[0] := h0
  rw [c0] at h0
  obtain ⟨f0, e0, k0⟩ := lst_by Tryd.underlying31 Tryd.underlying5 (by kernel_rfl) (by rw [List.length_take, List.length_drop, Array.length_toList, hsz]; rfl) h0
  have h1 := hat 1 _ rfl
  rw [List.getElem?_eq_getElem (by omega)] at h1
  have c1 : Tryd.prog.cellsOf 24 = 1 := by kernel_rfl
  replace h1 : DataW.trod enc Tryd.prog w b0 sp held n 24 ((cs.toList.drop 32).take (Tryd.prog.cellsOf 24)) = some xs[1] := h1
  rw [c1] at h1
  obtain ⟨f1, e1, _, w1⟩ := DataW.trod_int Tryd.underlying24 h1
  have k1 := bounds_u64 w1
  have h2 := hat 2 _ rfl
  rw [List.getElem?_eq_getElem (by omega)] at h2
  have c2 : Tryd.prog.cellsOf 31 = 32 := by kernel_rfl
  replace h2 : DataW.trod enc Tryd.prog w b0 sp held n 31 ((cs.toList.drop 33).take (Tryd.prog.cellsOf 31)) = some xs[2] := h2
  rw [c2] at h2
  obtain ⟨f2, e2, k2⟩ := lst_by Tryd.underlying31 Tryd.underlying5 (by kernel_rfl) (by rw [List.length_take, List.length_drop, Array.length_toList, hsz]; rfl) h2
  have el : cs.toList.drop 0 = (cs.toList.drop 0).take 32 ++ ((cs.toList.drop 32).take 1 ++ ((cs.toList.drop 33).take 32 ++ ([]))) := ((cut_list cs.toList 0 32).trans (congrArg _ ((cut_list cs.toList 32 1).trans (congrArg _ ((cut_list cs.toList 33 32).trans (congrArg _ (List.drop_eq_nil_of_le (by rw [Array.length_toList, hsz]; exact Nat.le_refl _))))))))
  rw [e0, e1, e2] at el
  refine ⟨⟨f0, f1, f2⟩, ?_, k0, ⟨k1.1, Int.lt_of_le_of_lt k1.2 (by decide)⟩, k2⟩
  congr 1
  apply Array.ext'
  exact el

end Go.Proofs.YtaodonmbanpieaaDoor
namespace Go.Proofs.YtaodonmbanpieaaDoor
open Go.RowKit
set_option linter.unusedVariables false
set_option linter.unusedSimpArgs false

theorem okoEth1 : OkEth1 oEth1 := ⟨fun j hj => bd_zero j _ hj, ⟨by decide, by decide⟩, fun j hj => bd_zero j _ hj⟩

theorem ebdEth1 (x : VEth1) (hx : OkEth1 x) (q : Nat) : 0 ≤ ct7 (eEth1 x) q ∧ ct7 (eEth1 x) q < 256 := by
  obtain ⟨h0, h1, h2⟩ := hx
  simp only [eEth1, ct7]
  by_cases c0 : q < 32
  · rw [if_pos c0]; exact h0 _ c0
  rw [if_neg c0]
  by_cases c1 : q - 32 < 8
  · rw [if_pos c1]; exact nmB_bd _ _
  rw [if_neg c1]
  by_cases c2 : q - 32 - 8 < 32
  · rw [if_pos c2]; exact h2 _ c2
  rw [if_neg c2]
  exact ⟨Int.le_refl _, by decide⟩

theorem rdEth1 (m : Nat → Int) (hm : ∀ j, 0 ≤ m j ∧ m j < 256) (len : Nat) (hlen : len ≤ 140737488351232) : ∃ (V : VEth1) (E : Int), OkEth1 V ∧ (E = 0 → len = 72 ∧ ∀ q, q < 72 → ct7 (eEth1 V) q = m q) ∧ (len = 72 → E = 0) ∧
    (∀ (w : World) ao cap, Bys w ao len cap m → len ≤ cap → cap ≤ 9223372036854775807 → Calls Tryd.prog 38 #[.slice ao len cap] w fun e w' => e = .returned (.tuple #[.agg (cel (sEth1 V)), .int .i64 E]) ∧ Below w.heap.size w w') ∧
    (∀ (w : World) ao cap, Bys w ao len cap m → len ≤ cap → cap ≤ 9223372036854775807 → Calls Tryd.prog 39 #[.slice ao len cap] w fun e w' => e = .returned (.tuple #[.agg (cel (sEth1 V)), .int .i64 E]) ∧ Below w.heap.size w w') := by
  by_cases h : len = 72
  · subst h
    exact ⟨pEth1 m, 0, okpEth1 m hm, fun _ => ⟨rfl, fun q hq => epEth1 m hm q hq⟩, fun _ => rfl, fun w ao cap h1 h2 h3 => readEth1_ok m ao cap w h1 hm h2 h3, fun w ao cap h1 h2 h3 => rreadEth1_ok m ao cap w h1 hm h2 h3⟩
  · exact ⟨oEth1, 4, okoEth1, fun h0 => absurd h0 (by decide), fun h0 => absurd h0 h, fun w ao cap h1 h2 h3 => readEth1_no m ao len cap w h1 hm h2 h3 hlen h, fun w ao cap h1 h2 h3 => rreadEth1_no m ao len cap w h1 hm h2 h3 hlen h⟩

end Go.Proofs.YtaodonmbanpieaaDoor
