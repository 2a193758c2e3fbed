/-
  Values read and bytes, both Reads, the argument opened.
-/
import Derived.Test.YtaodonmbanpieabDoorCoA
import Derived.Test.YtaodonmbanpieabDoorCoB
import Derived.Test.YtaodonmbanpieabDoorCoC
import Derived.Test.YtaodonmbanpieabDoorThDepositData
import Derived.Test.YtaodonmbanpieabDoorTrDepositData
namespace Go.Proofs.YtaodonmbanpieabDoor
open Go.RowKit
set_option linter.unusedVariables false
set_option linter.unusedSimpArgs false

theorem okpDepositData (m : Nat → Int) (hm : ∀ j, 0 ≤ m j ∧ m j < 256) : OkDepositData (pDepositData m) := ⟨fun j _ => hm (0 + j), fun j _ => hm (48 + j), rdN_bd (f := fun q => m (80 + q)) (fun j _ => hm (80 + j)), fun j _ => hm (88 + j)⟩

theorem epDepositData (m : Nat → Int) (hm : ∀ j, 0 ≤ m j ∧ m j < 256) (q : Nat) (hq : q < 184) : ct7 (eDepositData (pDepositData m)) q = m q := by
  simp only [eDepositData, pDepositData, ct7]
  by_cases h0 : q < 48
  · rw [if_pos h0]; exact congrArg m (by omega)
  rw [if_neg h0]
  by_cases h1 : q - 48 < 32
  · rw [if_pos h1]; exact congrArg m (by omega)
  rw [if_neg h1]
  by_cases h2 : q - 48 - 32 < 8
  · rw [if_pos h2, nm_rd (fun q => m (80 + q)) (fun j _ => hm (80 + j)) _ h2]; exact congrArg m (by omega)
  rw [if_neg h2]
  by_cases h3 : q - 48 - 32 - 8 < 96
  · rw [if_pos h3]; exact congrArg m (by omega)
  rw [if_neg h3]
  omega

end Go.Proofs.YtaodonmbanpieabDoor
namespace Go.Proofs.YtaodonmbanpieabDoor
open Go.RowKit
set_option linter.unusedVariables false
set_option linter.unusedSimpArgs false

set_option maxRecDepth 100000 in
theorem open_DepositData {H : Type} {enc : TypeId × Value → H} {W w : World} {r : Reach} {base b0 : Nat} {sp : Nat → Bool} {held : Bool} {v : Value} {d : DataW H} {p : List MemPlace}
    (hv : Value.okWide Tryd.prog W r base 46 v) (h : DataW.Trod enc Tryd.prog w b0 sp held 46 v d p) : ∃ x : VDepositData, v = .agg (cel (sDepositData x)) ∧ OkDepositData x := by
  obtain ⟨cs, rfl, hs, xs, n, hxl, hat⟩ := open_str Tryd.underlying46 hv h
  have hsz : cs.size = 177 := hs.trans (by kernel_rfl)
  have hx : xs.length = 4 := hxl
  have h0 := hat 0 _ rfl
  rw [List.getElem?_eq_getElem (by omega)] at h0
  have c0 : Tryd.prog.cellsOf 44 = 48 := by kernel_rfl
  replace h0 : DataW.trod enc Tryd.prog w b0 sp held n 44 ((cs.toList.drop 0).take (Tryd.prog.cellsOf 44)) = some xs[0] := h0
  rw [c0] at h0
  obtain ⟨f0, e0, k0⟩ := lst_by Tryd.underlying44 Tryd.underlying5 (by kernel_rfl) (by rw [List.length_take, List.length_drop, Array.length_toList, hsz]; rfl) h0
  have h1 := hat 1 _ rfl
  rw [List.getElem?_eq_getElem (by omega)] at h1
  have c1 : Tryd.prog.cellsOf 24 = 32 := by kernel_rfl
  replace h1 : DataW.trod enc Tryd.prog w b0 sp held n 24 ((cs.toList.drop 48).take (Tryd.prog.cellsOf 24)) = some xs[1] := h1
  rw [c1] at h1
  obtain ⟨f1, e1, k1⟩ := lst_by Tryd.underlying24 Tryd.underlying5 (by kernel_rfl) (by rw [List.length_take, List.length_drop, Array.length_toList, hsz]; rfl) h1
  have h2 := hat 2 _ rfl
  rw [List.getElem?_eq_getElem (by omega)] at h2
  have c2 : Tryd.prog.cellsOf 22 = 1 := by kernel_rfl
  replace h2 : DataW.trod enc Tryd.prog w b0 sp held n 22 ((cs.toList.drop 80).take (Tryd.prog.cellsOf 22)) = some xs[2] := h2
  rw [c2] at h2
  obtain ⟨f2, e2, _, w2⟩ := DataW.trod_int Tryd.underlying22 h2
  have k2 := bounds_u64 w2
  have h3 := hat 3 _ rfl
  rw [List.getElem?_eq_getElem (by omega)] at h3
  have c3 : Tryd.prog.cellsOf 28 = 96 := by kernel_rfl
  replace h3 : DataW.trod enc Tryd.prog w b0 sp held n 28 ((cs.toList.drop 81).take (Tryd.prog.cellsOf 28)) = some xs[3] := h3
  rw [c3] at h3
  obtain ⟨f3, e3, k3⟩ := lst_by Tryd.underlying28 Tryd.underlying5 (by kernel_rfl) (by rw [List.length_take, List.length_drop, Array.length_toList, hsz]; rfl) h3
  have el : cs.toList.drop 0 = (cs.toList.drop 0).take 48 ++ ((cs.toList.drop 48).take 32 ++ ((cs.toList.drop 80).take 1 ++ ((cs.toList.drop 81).take 96 ++ ([])))) := ((cut_list cs.toList 0 48).trans (congrArg _ ((cut_list cs.toList 48 32).trans (congrArg _ ((cut_list cs.toList 80 1).trans (congrArg _ ((cut_list cs.toList 81 96).trans (congrArg _ (List.drop_eq_nil_of_le (by rw [Array.length_toList, hsz]; exact Nat.le_refl _))))))))))
  rw [e0, e1, e2, e3] at el
  refine ⟨⟨f0, f1, f2, f3⟩, ?_, k0, k1, ⟨k2.1, Int.lt_of_le_of_lt k2.2 (by decide)⟩, k3⟩
  congr 1
  apply Array.ext'
  exact el

end Go.Proofs.YtaodonmbanpieabDoor
namespace Go.Proofs.YtaodonmbanpieabDoor
open Go.RowKit
set_option linter.unusedVariables false
set_option linter.unusedSimpArgs false

theorem okoDepositData : OkDepositData oDepositData := ⟨fun j hj => bd_zero j _ hj, fun j hj => bd_zero j _ hj, ⟨by decide, by decide⟩, fun j hj => bd_zero j _ hj⟩

theorem ebdDepositData (x : VDepositData) (hx : OkDepositData x) (q : Nat) : 0 ≤ ct7 (eDepositData x) q ∧ ct7 (eDepositData x) q < 256 := by
  obtain ⟨h0, h1, h2, h3⟩ := hx
  simp only [eDepositData, ct7]
  by_cases c0 : q < 48
  · rw [if_pos c0]; exact h0 _ c0
  rw [if_neg c0]
  by_cases c1 : q - 48 < 32
  · rw [if_pos c1]; exact h1 _ c1
  rw [if_neg c1]
  by_cases c2 : q - 48 - 32 < 8
  · rw [if_pos c2]; exact nmB_bd _ _
  rw [if_neg c2]
  by_cases c3 : q - 48 - 32 - 8 < 96
  · rw [if_pos c3]; exact h3 _ c3
  rw [if_neg c3]
  exact ⟨Int.le_refl _, by decide⟩

theorem rdDepositData (m : Nat → Int) (hm : ∀ j, 0 ≤ m j ∧ m j < 256) (len : Nat) (hlen : len ≤ 140737488351232) : ∃ (V : VDepositData) (E : Int), OkDepositData V ∧ (E = 0 → len = 184 ∧ ∀ q, q < 184 → ct7 (eDepositData V) q = m q) ∧ (len = 184 → E = 0) ∧
    (∀ (w : World) ao cap, Bys w ao len cap m → len ≤ cap → cap ≤ 9223372036854775807 → Calls Tryd.prog 20 #[.slice ao len cap] w fun e w' => e = .returned (.tuple #[.agg (cel (sDepositData V)), .int .i64 E]) ∧ Below w.heap.size w w') ∧
    (∀ (w : World) ao cap, Bys w ao len cap m → len ≤ cap → cap ≤ 9223372036854775807 → Calls Tryd.prog 21 #[.slice ao len cap] w fun e w' => e = .returned (.tuple #[.agg (cel (sDepositData V)), .int .i64 E]) ∧ Below w.heap.size w w') := by
  by_cases h : len = 184
  · subst h
    exact ⟨pDepositData m, 0, okpDepositData m hm, fun _ => ⟨rfl, fun q hq => epDepositData m hm q hq⟩, fun _ => rfl, fun w ao cap h1 h2 h3 => readDepositData_ok m ao cap w h1 hm h2 h3, fun w ao cap h1 h2 h3 => rreadDepositData_ok m ao cap w h1 hm h2 h3⟩
  · exact ⟨oDepositData, 4, okoDepositData, fun h0 => absurd h0 (by decide), fun h0 => absurd h0 h, fun w ao cap h1 h2 h3 => readDepositData_no m ao len cap w h1 hm h2 h3 hlen h, fun w ao cap h1 h2 h3 => rreadDepositData_no m ao len cap w h1 hm h2 h3 hlen h⟩

end Go.Proofs.YtaodonmbanpieabDoor
