/-
  Values read and bytes, both Reads, the argument opened.
-/
import Derived.Test.YtaodonmbanpieaaDoorCoA
import Derived.Test.YtaodonmbanpieaaDoorCoB
import Derived.Test.YtaodonmbanpieaaDoorCoC
import Derived.Test.YtaodonmbanpieaaDoorThData
import Derived.Test.YtaodonmbanpieaaDoorTrData
import Derived.Test.YtaodonmbanpieaaDoorTyCheckpoint
namespace Go.Proofs.YtaodonmbanpieaaDoor
open Go.RowKit
set_option linter.unusedVariables false
set_option linter.unusedSimpArgs false

theorem okpData (m : Nat → Int) (hm : ∀ j, 0 ≤ m j ∧ m j < 256) : OkData (pData m) := ⟨rdN_bd (f := fun q => m (0 + q)) (fun j _ => hm (0 + j)), rdN_bd (f := fun q => m (8 + q)) (fun j _ => hm (8 + j)), fun j _ => hm (16 + j), okpCheckpoint (fun q => m (48 + q)) (fun j => hm (48 + j)), okpCheckpoint (fun q => m (88 + q)) (fun j => hm (88 + j))⟩

theorem epData (m : Nat → Int) (hm : ∀ j, 0 ≤ m j ∧ m j < 256) (q : Nat) (hq : q < 128) : ct7 (eData (pData m)) q = m q := by
  unfold eData pData
  rw [show ∀ (p : Nat × (Nat → Int)) r q, ct7 (p :: r) q = if q < p.1 then p.2 q else ct7 r (q - p.1) from fun _ _ _ => rfl]
  by_cases h0 : q < 8
  · rw [if_pos h0]; exact (nm_rd (fun q => m (0 + q)) (fun j _ => hm (0 + j)) _ h0).trans (congrArg m (by omega))
  rw [if_neg h0]
  rw [show ∀ (p : Nat × (Nat → Int)) r q, ct7 (p :: r) q = if q < p.1 then p.2 q else ct7 r (q - p.1) from fun _ _ _ => rfl]
  by_cases h1 : q - 8 < 8
  · rw [if_pos h1]; exact (nm_rd (fun q => m (8 + q)) (fun j _ => hm (8 + j)) _ h1).trans (congrArg m (by omega))
  rw [if_neg h1]
  rw [show ∀ (p : Nat × (Nat → Int)) r q, ct7 (p :: r) q = if q < p.1 then p.2 q else ct7 r (q - p.1) from fun _ _ _ => rfl]
  by_cases h2 : q - 8 - 8 < 32
  · rw [if_pos h2]; exact congrArg m (by omega)
  rw [if_neg h2]
  rw [show ∀ (p : Nat × (Nat → Int)) r q, ct7 (p :: r) q = if q < p.1 then p.2 q else ct7 r (q - p.1) from fun _ _ _ => rfl]
  by_cases h3 : q - 8 - 8 - 32 < 40
  · rw [if_pos h3]; exact (epCheckpoint (fun q => m (48 + q)) (fun j => hm (48 + j)) _ h3).trans (congrArg m (by omega))
  rw [if_neg h3]
  rw [show ∀ (p : Nat × (Nat → Int)) r q, ct7 (p :: r) q = if q < p.1 then p.2 q else ct7 r (q - p.1) from fun _ _ _ => rfl]
  by_cases h4 : q - 8 - 8 - 32 - 40 < 40
  · rw [if_pos h4]; exact (epCheckpoint (fun q => m (88 + q)) (fun j => hm (88 + j)) _ h4).trans (congrArg m (by omega))
  rw [if_neg h4]
  omega

theorem okoData : OkData oData := ⟨⟨by decide, by decide⟩, ⟨by decide, by decide⟩, fun j hj => bd_zero j _ hj, okoCheckpoint, okoCheckpoint⟩

theorem ebdData (x : VData) (hx : OkData x) (q : Nat) : 0 ≤ ct7 (eData x) q ∧ ct7 (eData x) q < 256 := by
  obtain ⟨h0, h1, h2, h3, h4⟩ := hx
  unfold eData
  rw [show ∀ (p : Nat × (Nat → Int)) r q, ct7 (p :: r) q = if q < p.1 then p.2 q else ct7 r (q - p.1) from fun _ _ _ => rfl]
  by_cases c0 : q < 8
  · rw [if_pos c0]; exact nmB_bd _ _
  rw [if_neg c0]
  rw [show ∀ (p : Nat × (Nat → Int)) r q, ct7 (p :: r) q = if q < p.1 then p.2 q else ct7 r (q - p.1) from fun _ _ _ => rfl]
  by_cases c1 : q - 8 < 8
  · rw [if_pos c1]; exact nmB_bd _ _
  rw [if_neg c1]
  rw [show ∀ (p : Nat × (Nat → Int)) r q, ct7 (p :: r) q = if q < p.1 then p.2 q else ct7 r (q - p.1) from fun _ _ _ => rfl]
  by_cases c2 : q - 8 - 8 < 32
  · rw [if_pos c2]; exact h2 _ c2
  rw [if_neg c2]
  rw [show ∀ (p : Nat × (Nat → Int)) r q, ct7 (p :: r) q = if q < p.1 then p.2 q else ct7 r (q - p.1) from fun _ _ _ => rfl]
  by_cases c3 : q - 8 - 8 - 32 < 40
  · rw [if_pos c3]; exact ebdCheckpoint _ h3 _
  rw [if_neg c3]
  rw [show ∀ (p : Nat × (Nat → Int)) r q, ct7 (p :: r) q = if q < p.1 then p.2 q else ct7 r (q - p.1) from fun _ _ _ => rfl]
  by_cases c4 : q - 8 - 8 - 32 - 40 < 40
  · rw [if_pos c4]; exact ebdCheckpoint _ h4 _
  rw [if_neg c4]
  exact ⟨Int.le_refl _, by show (0 : Int) < 256; decide⟩

theorem rdData (m : Nat → Int) (hm : ∀ j, 0 ≤ m j ∧ m j < 256) (len : Nat) (hlen : len ≤ 140737488351232) : ∃ (V : VData) (E : Int), OkData V ∧ (E = 0 → len = 128 ∧ ∀ q, q < 128 → ct7 (eData V) q = m q) ∧ (len = 128 → E = 0) ∧
    (∀ (w : World) ao cap, Bys w ao len cap m → len ≤ cap → cap ≤ 9223372036854775807 → Calls Tryd.prog 32 #[.slice ao len cap] w fun e w' => e = .returned (.tuple #[.agg (cel (sData V)), .int .i64 E]) ∧ Below w.heap.size w w') ∧
    (∀ (w : World) ao cap, Bys w ao len cap m → len ≤ cap → cap ≤ 9223372036854775807 → Calls Tryd.prog 33 #[.slice ao len cap] w fun e w' => e = .returned (.tuple #[.agg (cel (sData V)), .int .i64 E]) ∧ Below w.heap.size w w') := by
  by_cases h : len = 128
  · subst h
    exact ⟨pData m, 0, okpData m hm, fun _ => ⟨rfl, fun q hq => epData m hm q hq⟩, fun _ => rfl, fun w ao cap h1 h2 h3 => readData_ok m ao cap w h1 hm h2 h3, fun w ao cap h1 h2 h3 => rreadData_ok m ao cap w h1 hm h2 h3⟩
  · exact ⟨oData, 4, okoData, fun h0 => absurd h0 (by decide), fun h0 => absurd h0 h, fun w ao cap h1 h2 h3 => readData_no m ao len cap w h1 hm h2 h3 hlen h, fun w ao cap h1 h2 h3 => rreadData_no m ao len cap w h1 hm h2 h3 hlen h⟩

end Go.Proofs.YtaodonmbanpieaaDoor
namespace Go.Proofs.YtaodonmbanpieaaDoor
open Go.RowKit
set_option linter.unusedVariables false
set_option linter.unusedSimpArgs false

set_option maxRecDepth 100000 in
theorem open_Data {H : Type} {enc : TypeId × Value → H} {W w : World} {r : Reach} {base b0 : Nat} {sp : Nat → Bool} {held : Bool} {v : Value} {d : DataW H} {p : List MemPlace}
    (hv : Value.okWide Tryd.prog W r base 62 v) (h : DataW.Trod enc Tryd.prog w b0 sp held 62 v d p) : ∃ x : VData, v = .agg (cel (sData x)) ∧ OkData x := by
  obtain ⟨cs, rfl, hs, xs, n, hxl, hat⟩ := open_str Tryd.underlying62 hv h
  have hsz : cs.size = 100 := hs.trans (by kernel_rfl)
  have hsl : cs.toList.length = 100 := by rw [Array.length_toList]; exact hsz
  have hx : xs.length = 5 := hxl
  have h0 := hat 0 _ rfl
  rw [List.getElem?_eq_getElem (by omega)] at h0
  have c0 : Tryd.prog.cellsOf 24 = 1 := by kernel_rfl
  replace h0 : DataW.trod enc Tryd.prog w b0 sp held n 24 ((cs.toList.drop 0).take (Tryd.prog.cellsOf 24)) = some xs[0] := h0
  rw [c0] at h0
  obtain ⟨f0, e0, _, w0⟩ := DataW.trod_int Tryd.underlying24 h0
  have k0 := bounds_u64 w0
  have h1 := hat 1 _ rfl
  rw [List.getElem?_eq_getElem (by omega)] at h1
  have c1 : Tryd.prog.cellsOf 24 = 1 := by kernel_rfl
  replace h1 : DataW.trod enc Tryd.prog w b0 sp held n 24 ((cs.toList.drop 1).take (Tryd.prog.cellsOf 24)) = some xs[1] := h1
  rw [c1] at h1
  obtain ⟨f1, e1, _, w1⟩ := DataW.trod_int Tryd.underlying24 h1
  have k1 := bounds_u64 w1
  have h2 := hat 2 _ rfl
  rw [List.getElem?_eq_getElem (by omega)] at h2
  have c2 : Tryd.prog.cellsOf 31 = 32 := by kernel_rfl
  replace h2 : DataW.trod enc Tryd.prog w b0 sp held n 31 ((cs.toList.drop 2).take (Tryd.prog.cellsOf 31)) = some xs[2] := h2
  rw [c2] at h2
  obtain ⟨f2, e2, k2⟩ := lst_by Tryd.underlying31 Tryd.underlying5 (by kernel_rfl) (by rw [List.length_take, List.length_drop, hsl]; rfl) h2
  have h3 := hat 3 _ rfl
  rw [List.getElem?_eq_getElem (by omega)] at h3
  have c3 : Tryd.prog.cellsOf 42 = 33 := by kernel_rfl
  replace h3 : DataW.trod enc Tryd.prog w b0 sp held n 42 ((cs.toList.drop 34).take (Tryd.prog.cellsOf 42)) = some xs[3] := h3
  rw [c3] at h3
  obtain ⟨f3, e3, k3⟩ := opl_Checkpoint (by rw [List.length_take, List.length_drop, hsl]; rfl) h3
  have h4 := hat 4 _ rfl
  rw [List.getElem?_eq_getElem (by omega)] at h4
  have c4 : Tryd.prog.cellsOf 42 = 33 := by kernel_rfl
  replace h4 : DataW.trod enc Tryd.prog w b0 sp held n 42 ((cs.toList.drop 67).take (Tryd.prog.cellsOf 42)) = some xs[4] := h4
  rw [c4] at h4
  obtain ⟨f4, e4, k4⟩ := opl_Checkpoint (by rw [List.length_take, List.length_drop, hsl]; rfl) h4
  have el : cs.toList.drop 0 = (cs.toList.drop 0).take 1 ++ ((cs.toList.drop 1).take 1 ++ ((cs.toList.drop 2).take 32 ++ ((cs.toList.drop 34).take 33 ++ ((cs.toList.drop 67).take 33 ++ ([]))))) := ((cut_list cs.toList 0 1).trans (congrArg _ ((cut_list cs.toList 1 1).trans (congrArg _ ((cut_list cs.toList 2 32).trans (congrArg _ ((cut_list cs.toList 34 33).trans (congrArg _ ((cut_list cs.toList 67 33).trans (congrArg _ (List.drop_eq_nil_of_le (by rw [hsl]; exact Nat.le_refl _))))))))))))
  rw [e0, e1, e2, e3, e4] at el
  refine ⟨⟨f0, f1, f2, f3, f4⟩, ?_, ⟨k0.1, Int.lt_of_le_of_lt k0.2 (by decide)⟩, ⟨k1.1, Int.lt_of_le_of_lt k1.2 (by decide)⟩, k2, k3, k4⟩
  congr 1
  apply Array.ext'
  exact el

end Go.Proofs.YtaodonmbanpieaaDoor
