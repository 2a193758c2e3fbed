/-
  Values read and bytes, both Reads, the argument opened.
-/
import Derived.Test.YtaodonmbanpieaaDoorCoA
import Derived.Test.YtaodonmbanpieaaDoorCoB
import Derived.Test.YtaodonmbanpieaaDoorCoC
import Derived.Test.YtaodonmbanpieaaDoorThValidator
import Derived.Test.YtaodonmbanpieaaDoorTrValidator
namespace Go.Proofs.YtaodonmbanpieaaDoor
open Go.RowKit
set_option linter.unusedVariables false
set_option linter.unusedSimpArgs false

theorem okpValidator (m : Nat → Int) (hm : ∀ j, 0 ≤ m j ∧ m j < 256) : OkValidator (pValidator m) := ⟨fun j _ => hm (0 + j), fun j _ => hm (48 + j), rdN_bd (f := fun q => m (80 + q)) (fun j _ => hm (80 + j)), trivial, rdN_bd (f := fun q => m (89 + q)) (fun j _ => hm (89 + j)), rdN_bd (f := fun q => m (97 + q)) (fun j _ => hm (97 + j)), rdN_bd (f := fun q => m (105 + q)) (fun j _ => hm (105 + j)), rdN_bd (f := fun q => m (113 + q)) (fun j _ => hm (113 + j))⟩

theorem epValidator (m : Nat → Int) (hm : ∀ j, 0 ≤ m j ∧ m j < 256) (hfl : ¬ 1 < m 88) (q : Nat) (hq : q < 121) : ct7 (eValidator (pValidator m)) q = m q := by
  simp only [eValidator, pValidator, ct7]
  by_cases h0 : q < 48
  · rw [if_pos h0]; exact congrArg m (by omega)
  rw [if_neg h0]
  by_cases h1 : q - 48 < 32
  · rw [if_pos h1]; exact congrArg m (by omega)
  rw [if_neg h1]
  by_cases h2 : q - 48 - 32 < 8
  · rw [if_pos h2]; exact (nm_rd (fun q => m (80 + q)) (fun j _ => hm (80 + j)) _ h2).trans (congrArg m (by omega))
  rw [if_neg h2]
  by_cases h3 : q - 48 - 32 - 8 < 1
  · rw [if_pos h3]
    have h1 := hm 88
    have h2 : q - 48 - 32 - 8 = 0 := by omega
    have h3 : q = 88 := by omega
    rw [h3]
    unfold bbB
    rcases (by omega : m 88 = 0 ∨ m 88 = 1) with h4 | h4 <;> rw [h4] <;> rfl
  rw [if_neg h3]
  by_cases h4 : q - 48 - 32 - 8 - 1 < 8
  · rw [if_pos h4]; exact (nm_rd (fun q => m (89 + q)) (fun j _ => hm (89 + j)) _ h4).trans (congrArg m (by omega))
  rw [if_neg h4]
  by_cases h5 : q - 48 - 32 - 8 - 1 - 8 < 8
  · rw [if_pos h5]; exact (nm_rd (fun q => m (97 + q)) (fun j _ => hm (97 + j)) _ h5).trans (congrArg m (by omega))
  rw [if_neg h5]
  by_cases h6 : q - 48 - 32 - 8 - 1 - 8 - 8 < 8
  · rw [if_pos h6]; exact (nm_rd (fun q => m (105 + q)) (fun j _ => hm (105 + j)) _ h6).trans (congrArg m (by omega))
  rw [if_neg h6]
  by_cases h7 : q - 48 - 32 - 8 - 1 - 8 - 8 - 8 < 8
  · rw [if_pos h7]; exact (nm_rd (fun q => m (113 + q)) (fun j _ => hm (113 + j)) _ h7).trans (congrArg m (by omega))
  rw [if_neg h7]
  omega

theorem okoValidator : OkValidator oValidator := ⟨fun j hj => bd_zero j _ hj, fun j hj => bd_zero j _ hj, ⟨by decide, by decide⟩, trivial, ⟨by decide, by decide⟩, ⟨by decide, by decide⟩, ⟨by decide, by decide⟩, ⟨by decide, by decide⟩⟩

theorem ebdValidator (x : VValidator) (hx : OkValidator x) (q : Nat) : 0 ≤ ct7 (eValidator x) q ∧ ct7 (eValidator x) q < 256 := by
  obtain ⟨h0, h1, h2, h3, h4, h5, h6, h7⟩ := hx
  unfold eValidator
  rw [show ∀ (p : Nat × (Nat → Int)) r q, ct7 (p :: r) q = if q < p.1 then p.2 q else ct7 r (q - p.1) from fun _ _ _ => rfl]
  by_cases c0 : q < 48
  · rw [if_pos c0]; exact h0 _ c0
  rw [if_neg c0]
  rw [show ∀ (p : Nat × (Nat → Int)) r q, ct7 (p :: r) q = if q < p.1 then p.2 q else ct7 r (q - p.1) from fun _ _ _ => rfl]
  by_cases c1 : q - 48 < 32
  · rw [if_pos c1]; exact h1 _ c1
  rw [if_neg c1]
  rw [show ∀ (p : Nat × (Nat → Int)) r q, ct7 (p :: r) q = if q < p.1 then p.2 q else ct7 r (q - p.1) from fun _ _ _ => rfl]
  by_cases c2 : q - 48 - 32 < 8
  · rw [if_pos c2]; exact nmB_bd _ _
  rw [if_neg c2]
  rw [show ∀ (p : Nat × (Nat → Int)) r q, ct7 (p :: r) q = if q < p.1 then p.2 q else ct7 r (q - p.1) from fun _ _ _ => rfl]
  by_cases c3 : q - 48 - 32 - 8 < 1
  · rw [if_pos c3]; exact bbB_bd _ 0
  rw [if_neg c3]
  rw [show ∀ (p : Nat × (Nat → Int)) r q, ct7 (p :: r) q = if q < p.1 then p.2 q else ct7 r (q - p.1) from fun _ _ _ => rfl]
  by_cases c4 : q - 48 - 32 - 8 - 1 < 8
  · rw [if_pos c4]; exact nmB_bd _ _
  rw [if_neg c4]
  rw [show ∀ (p : Nat × (Nat → Int)) r q, ct7 (p :: r) q = if q < p.1 then p.2 q else ct7 r (q - p.1) from fun _ _ _ => rfl]
  by_cases c5 : q - 48 - 32 - 8 - 1 - 8 < 8
  · rw [if_pos c5]; exact nmB_bd _ _
  rw [if_neg c5]
  rw [show ∀ (p : Nat × (Nat → Int)) r q, ct7 (p :: r) q = if q < p.1 then p.2 q else ct7 r (q - p.1) from fun _ _ _ => rfl]
  by_cases c6 : q - 48 - 32 - 8 - 1 - 8 - 8 < 8
  · rw [if_pos c6]; exact nmB_bd _ _
  rw [if_neg c6]
  rw [show ∀ (p : Nat × (Nat → Int)) r q, ct7 (p :: r) q = if q < p.1 then p.2 q else ct7 r (q - p.1) from fun _ _ _ => rfl]
  by_cases c7 : q - 48 - 32 - 8 - 1 - 8 - 8 - 8 < 8
  · rw [if_pos c7]; exact nmB_bd _ _
  rw [if_neg c7]
  exact ⟨Int.le_refl _, by show (0 : Int) < 256; decide⟩

theorem gdValidator (x : VValidator) : ¬ 1 < ct7 (eValidator x) 88 := by
  show ¬ 1 < bbB x.f3 0
  unfold bbB
  cases x.f3 <;> decide

theorem rdValidator (m : Nat → Int) (hm : ∀ j, 0 ≤ m j ∧ m j < 256) (len : Nat) (hlen : len ≤ 140737488351232) : ∃ (V : VValidator) (E : Int), OkValidator V ∧ (E = 0 → len = 121 ∧ ∀ q, q < 121 → ct7 (eValidator V) q = m q) ∧ (len = 121 → ¬ 1 < m 88 → E = 0) ∧
    (∀ (w : World) ao cap, Bys w ao len cap m → len ≤ cap → cap ≤ 9223372036854775807 → Calls Tryd.prog 26 #[.slice ao len cap] w fun e w' => e = .returned (.tuple #[.agg (cel (sValidator V)), .int .i64 E]) ∧ Below w.heap.size w w') ∧
    (∀ (w : World) ao cap, Bys w ao len cap m → len ≤ cap → cap ≤ 9223372036854775807 → Calls Tryd.prog 27 #[.slice ao len cap] w fun e w' => e = .returned (.tuple #[.agg (cel (sValidator V)), .int .i64 E]) ∧ Below w.heap.size w w') := by
  by_cases h : len = 121
  · subst h
    by_cases hfl : 1 < m 88
    · exact ⟨oValidator, 5, okoValidator, fun h0 => absurd h0 (by decide), fun _ h0 => absurd hfl h0, fun w ao cap h1 h2 h3 => readValidator_bad m ao cap w h1 hm h2 h3 hfl, fun w ao cap h1 h2 h3 => rreadValidator_bad m ao cap w h1 hm h2 h3 hfl⟩
    · exact ⟨pValidator m, 0, okpValidator m hm, fun _ => ⟨rfl, fun q hq => epValidator m hm hfl q hq⟩, fun _ _ => rfl, fun w ao cap h1 h2 h3 => readValidator_ok m ao cap w h1 hm h2 h3 hfl, fun w ao cap h1 h2 h3 => rreadValidator_ok m ao cap w h1 hm h2 h3 hfl⟩
  · exact ⟨oValidator, 4, okoValidator, fun h0 => absurd h0 (by decide), fun h0 => absurd h0 h, fun w ao cap h1 h2 h3 => readValidator_no m ao len cap w h1 hm h2 h3 hlen h, fun w ao cap h1 h2 h3 => rreadValidator_no m ao len cap w h1 hm h2 h3 hlen h⟩

end Go.Proofs.YtaodonmbanpieaaDoor
namespace Go.Proofs.YtaodonmbanpieaaDoor
open Go.RowKit
set_option linter.unusedVariables false
set_option linter.unusedSimpArgs false

set_option maxRecDepth 100000 in
theorem open_Validator {H : Type} {enc : TypeId × Value → H} {W w : World} {r : Reach} {base b0 : Nat} {sp : Nat → Bool} {held : Bool} {v : Value} {d : DataW H} {p : List MemPlace}
    (hv : Value.okWide Tryd.prog W r base 53 v) (h : DataW.Trod enc Tryd.prog w b0 sp held 53 v d p) : ∃ x : VValidator, v = .agg (cel (sValidator x)) ∧ OkValidator x := by
  obtain ⟨cs, rfl, hs, xs, n, hxl, hat⟩ := open_str Tryd.underlying53 hv h
  have hsz : cs.size = 86 := hs.trans (by kernel_rfl)
  have hsl : cs.toList.length = 86 := by rw [Array.length_toList]; exact hsz
  have hx : xs.length = 8 := hxl
  have h0 := hat 0 _ rfl
  rw [List.getElem?_eq_getElem (by omega)] at h0
  have c0 : Tryd.prog.cellsOf 51 = 48 := by kernel_rfl
  replace h0 : DataW.trod enc Tryd.prog w b0 sp held n 51 ((cs.toList.drop 0).take (Tryd.prog.cellsOf 51)) = some xs[0] := h0
  rw [c0] at h0
  obtain ⟨f0, e0, k0⟩ := lst_by Tryd.underlying51 Tryd.underlying5 (by kernel_rfl) (by rw [List.length_take, List.length_drop, hsl]; rfl) h0
  have h1 := hat 1 _ rfl
  rw [List.getElem?_eq_getElem (by omega)] at h1
  have c1 : Tryd.prog.cellsOf 31 = 32 := by kernel_rfl
  replace h1 : DataW.trod enc Tryd.prog w b0 sp held n 31 ((cs.toList.drop 48).take (Tryd.prog.cellsOf 31)) = some xs[1] := h1
  rw [c1] at h1
  obtain ⟨f1, e1, k1⟩ := lst_by Tryd.underlying31 Tryd.underlying5 (by kernel_rfl) (by rw [List.length_take, List.length_drop, hsl]; rfl) h1
  have h2 := hat 2 _ rfl
  rw [List.getElem?_eq_getElem (by omega)] at h2
  have c2 : Tryd.prog.cellsOf 24 = 1 := by kernel_rfl
  replace h2 : DataW.trod enc Tryd.prog w b0 sp held n 24 ((cs.toList.drop 80).take (Tryd.prog.cellsOf 24)) = some xs[2] := h2
  rw [c2] at h2
  obtain ⟨f2, e2, _, w2⟩ := DataW.trod_int Tryd.underlying24 h2
  have k2 := bounds_u64 w2
  have h3 := hat 3 _ rfl
  rw [List.getElem?_eq_getElem (by omega)] at h3
  have c3 : Tryd.prog.cellsOf 4 = 1 := by kernel_rfl
  replace h3 : DataW.trod enc Tryd.prog w b0 sp held n 4 ((cs.toList.drop 81).take (Tryd.prog.cellsOf 4)) = some xs[3] := h3
  rw [c3] at h3
  obtain ⟨f3, e3, _⟩ := DataW.trod_bool Tryd.underlying4 h3
  have h4 := hat 4 _ rfl
  rw [List.getElem?_eq_getElem (by omega)] at h4
  have c4 : Tryd.prog.cellsOf 24 = 1 := by kernel_rfl
  replace h4 : DataW.trod enc Tryd.prog w b0 sp held n 24 ((cs.toList.drop 82).take (Tryd.prog.cellsOf 24)) = some xs[4] := h4
  rw [c4] at h4
  obtain ⟨f4, e4, _, w4⟩ := DataW.trod_int Tryd.underlying24 h4
  have k4 := bounds_u64 w4
  have h5 := hat 5 _ rfl
  rw [List.getElem?_eq_getElem (by omega)] at h5
  have c5 : Tryd.prog.cellsOf 24 = 1 := by kernel_rfl
  replace h5 : DataW.trod enc Tryd.prog w b0 sp held n 24 ((cs.toList.drop 83).take (Tryd.prog.cellsOf 24)) = some xs[5] := h5
  rw [c5] at h5
  obtain ⟨f5, e5, _, w5⟩ := DataW.trod_int Tryd.underlying24 h5
  have k5 := bounds_u64 w5
  have h6 := hat 6 _ rfl
  rw [List.getElem?_eq_getElem (by omega)] at h6
  have c6 : Tryd.prog.cellsOf 24 = 1 := by kernel_rfl
  replace h6 : DataW.trod enc Tryd.prog w b0 sp held n 24 ((cs.toList.drop 84).take (Tryd.prog.cellsOf 24)) = some xs[6] := h6
  rw [c6] at h6
  obtain ⟨f6, e6, _, w6⟩ := DataW.trod_int Tryd.underlying24 h6
  have k6 := bounds_u64 w6
  have h7 := hat 7 _ rfl
  rw [List.getElem?_eq_getElem (by omega)] at h7
  have c7 : Tryd.prog.cellsOf 24 = 1 := by kernel_rfl
  replace h7 : DataW.trod enc Tryd.prog w b0 sp held n 24 ((cs.toList.drop 85).take (Tryd.prog.cellsOf 24)) = some xs[7] := h7
  rw [c7] at h7
  obtain ⟨f7, e7, _, w7⟩ := DataW.trod_int Tryd.underlying24 h7
  have k7 := bounds_u64 w7
  have el : cs.toList.drop 0 = (cs.toList.drop 0).take 48 ++ ((cs.toList.drop 48).take 32 ++ ((cs.toList.drop 80).take 1 ++ ((cs.toList.drop 81).take 1 ++ ((cs.toList.drop 82).take 1 ++ ((cs.toList.drop 83).take 1 ++ ((cs.toList.drop 84).take 1 ++ ((cs.toList.drop 85).take 1 ++ ([])))))))) := ((cut_list cs.toList 0 48).trans (congrArg _ ((cut_list cs.toList 48 32).trans (congrArg _ ((cut_list cs.toList 80 1).trans (congrArg _ ((cut_list cs.toList 81 1).trans (congrArg _ ((cut_list cs.toList 82 1).trans (congrArg _ ((cut_list cs.toList 83 1).trans (congrArg _ ((cut_list cs.toList 84 1).trans (congrArg _ ((cut_list cs.toList 85 1).trans (congrArg _ (List.drop_eq_nil_of_le (by rw [hsl]; exact Nat.le_refl _))))))))))))))))))
  rw [e0, e1, e2, e3, e4, e5, e6, e7] at el
  refine ⟨⟨f0, f1, f2, f3, f4, f5, f6, f7⟩, ?_, k0, k1, ⟨k2.1, Int.lt_of_le_of_lt k2.2 (by decide)⟩, trivial, ⟨k4.1, Int.lt_of_le_of_lt k4.2 (by decide)⟩, ⟨k5.1, Int.lt_of_le_of_lt k5.2 (by decide)⟩, ⟨k6.1, Int.lt_of_le_of_lt k6.2 (by decide)⟩, ⟨k7.1, Int.lt_of_le_of_lt k7.2 (by decide)⟩⟩
  congr 1
  apply Array.ext'
  exact el

end Go.Proofs.YtaodonmbanpieaaDoor
