/-
  Committee: both Reads one answer, the argument opened.
-/
import Derived.Test.YtaodonmbanpieabDoorSkC
namespace Go.Proofs.YtaodonmbanpieabDoor
open Go.RowKit
set_option linter.unusedVariables false
set_option linter.unusedSimpArgs false

theorem okpCommittee (m : Nat → Int) (hm : ∀ j, 0 ≤ m j ∧ m j < 256) : OkCommittee (pCommittee m) := ⟨fun j _ => hm j, fun j _ => hm (384 + j)⟩
theorem epCommittee (m : Nat → Int) (hm : ∀ j, 0 ≤ m j ∧ m j < 256) (q : Nat) (hq : q < 432) : ct7 (eCommittee (pCommittee m)) q = m q := by
  show (if q < 384 then (if q < 384 then m q else 0) else if q - 384 < 48 then m (384 + (q - 384)) else 0) = m q
  by_cases h0 : q < 384
  · rw [if_pos h0, if_pos h0]
  · rw [if_neg h0, if_pos (by omega)]
    exact congrArg m (by omega)
theorem okoCommittee : OkCommittee oCommittee := ⟨fun j hj => bd_zero j _ hj, fun j hj => bd_zero j _ hj⟩
theorem ebdCommittee (x : VCommittee) (hx : OkCommittee x) (q : Nat) : 0 ≤ ct7 (eCommittee x) q ∧ ct7 (eCommittee x) q < 256 := by
  show 0 ≤ (if q < 384 then (if q < 384 then x.f0.f0 q else 0) else if q - 384 < 48 then x.f1 (q - 384) else 0) ∧ (if q < 384 then (if q < 384 then x.f0.f0 q else 0) else if q - 384 < 48 then x.f1 (q - 384) else 0) < 256
  by_cases c0 : q < 384
  · rw [if_pos c0, if_pos c0]; exact hx.1 _ c0
  rw [if_neg c0]
  by_cases c1 : q - 384 < 48
  · rw [if_pos c1]; exact hx.2 _ c1
  rw [if_neg c1]
  exact ⟨Int.le_refl _, by decide⟩
theorem rdCommittee (m : Nat → Int) (hm : ∀ j, 0 ≤ m j ∧ m j < 256) (len : Nat) (hlen : len ≤ 140737488351232) : ∃ (V : VCommittee) (E : Int), OkCommittee V ∧ (E = 0 → len = 432 ∧ ∀ q, q < 432 → ct7 (eCommittee V) q = m q) ∧ (len = 432 → E = 0) ∧
    (∀ (w : World) ao cap, Bys w ao len cap m → len ≤ cap → cap ≤ 9223372036854775807 → Calls Tryd.prog 44 #[.slice ao len cap] w fun e w' => e = .returned (.tuple #[.agg (cel (sCommittee V)), .int .i64 E]) ∧ Below w.heap.size w w') ∧
    (∀ (w : World) ao cap, Bys w ao len cap m → len ≤ cap → cap ≤ 9223372036854775807 → Calls Tryd.prog 45 #[.slice ao len cap] w fun e w' => e = .returned (.tuple #[.agg (cel (sCommittee V)), .int .i64 E]) ∧ Below w.heap.size w w') := by
  by_cases h : len = 432
  · subst h
    exact ⟨pCommittee m, 0, okpCommittee m hm, fun _ => ⟨rfl, fun q hq => epCommittee m hm q hq⟩, fun _ => rfl, fun w ao cap h1 h2 h3 => readCommittee_ok m ao cap w h1 hm h2 h3, fun w ao cap h1 h2 h3 => rreadCommittee_ok m ao cap w h1 hm h2 h3⟩
  · exact ⟨oCommittee, 4, okoCommittee, fun h0 => absurd h0 (by decide), fun h0 => absurd h0 h, fun w ao cap h1 h2 h3 => readCommittee_no m ao len cap w h1 hm h2 h3 hlen h, fun w ao cap h1 h2 h3 => rreadCommittee_no m ao len cap w h1 hm h2 h3 hlen h⟩

theorem lst_ks {H : Type} {enc : TypeId × Value → H} {P : Program} {w : World} {b0 fuel : Nat} {sp : Nat → Bool} {held : Bool} {t e e8 : TypeId} {cs : List Value} {x : DataW H × List MemPlace}
    (ht : P.underlying t = some (.array 8 e)) (hk : P.underlying e = some (.array 48 e8)) (he : P.underlying e8 = some (.int .u8)) (hck : P.cellsOf e = 48) (hce : P.cellsOf e8 = 1) (hl : cs.length = 384) (h : DataW.trod enc P w b0 sp held fuel t cs = some x) :
    ∃ f : Nat → Int, cs = (List.range 384).map (fun j => Value.int .u8 (f j)) ∧ ∀ j, j < 384 → 0 ≤ f j ∧ f j < 256 := by
  obtain ⟨xs, m, rfl, _, _, hxl, hat⟩ := DataW.trod_array ht h
  have hcell : ∀ q, q < 384 → ∃ z : Int, cs[q]? = some (.int .u8 z) ∧ 0 ≤ z ∧ z < 256 := by
    intro q hq
    have ha := hat (q / 48) (by omega)
    rw [List.getElem?_eq_getElem (by omega), hck] at ha
    obtain ⟨g, hc, hb⟩ := lst_by hk he hce (by rw [List.length_take, List.length_drop, hl]; omega) ha
    refine ⟨g (q % 48), ?_, hb _ (by omega)⟩
    have := congrArg (·[q % 48]?) hc
    simp only [List.getElem?_take, List.getElem?_drop] at this
    rw [if_pos (by omega), List.getElem?_map, List.getElem?_range (by omega)] at this
    exact (congrArg (fun i => cs[i]?) (show q = q / 48 * 48 + q % 48 by omega)).trans this
  refine ⟨byteOf cs.toArray, ?_, fun j hj => ?_⟩
  · apply List.ext_getElem?
    intro i
    rw [List.getElem?_map]
    by_cases hi : i < 384
    · obtain ⟨z, hz, _⟩ := hcell i hi
      rw [List.getElem?_range hi, hz]
      show some _ = some (Value.int .u8 (byteOf cs.toArray i))
      unfold byteOf
      rw [List.getElem?_toArray, hz]
    · rw [List.getElem?_eq_none (by omega), List.getElem?_eq_none (by simpa using hi)]
      rfl
  · obtain ⟨z, hz, hb⟩ := hcell j hj
    unfold byteOf
    rw [List.getElem?_toArray, hz]
    exact hb

set_option maxRecDepth 100000 in
theorem open_Committee {H : Type} {enc : TypeId × Value → H} {W w : World} {r : Reach} {base b0 : Nat} {sp : Nat → Bool} {held : Bool} {v : Value} {d : DataW H} {p : List MemPlace}
    (hv : Value.okWide Tryd.prog W r base 84 v) (h : DataW.Trod enc Tryd.prog w b0 sp held 84 v d p) : ∃ x : VCommittee, v = .agg (cel (sCommittee x)) ∧ OkCommittee x := by
  obtain ⟨cs, rfl, hs, xs, n, hxl, hat⟩ := open_str Tryd.underlying84 hv h
  have hsz : cs.size = 432 := hs.trans (by kernel_rfl)
  have hsl : cs.toList.length = 432 := by rw [Array.length_toList]; exact hsz
  have hx : xs.length = 2 := hxl
  have h0 := hat 0 _ rfl
  rw [List.getElem?_eq_getElem (by omega)] at h0
  have c0 : Tryd.prog.cellsOf 82 = 384 := by kernel_rfl
  replace h0 : DataW.trod enc Tryd.prog w b0 sp held n 82 ((cs.toList.drop 0).take (Tryd.prog.cellsOf 82)) = some xs[0] := h0
  rw [c0] at h0
  obtain ⟨f0, e0, k0⟩ := lst_ks Tryd.underlying82 Tryd.underlying44 Tryd.underlying5 (by kernel_rfl) (by kernel_rfl) (by rw [List.length_take, List.length_drop, hsl]; rfl) h0
  have h1 := hat 1 _ rfl
  rw [List.getElem?_eq_getElem (by omega)] at h1
  have c1 : Tryd.prog.cellsOf 44 = 48 := by kernel_rfl
  replace h1 : DataW.trod enc Tryd.prog w b0 sp held n 44 ((cs.toList.drop 384).take (Tryd.prog.cellsOf 44)) = some xs[1] := h1
  rw [c1] at h1
  obtain ⟨f1, e1, k1⟩ := lst_by Tryd.underlying44 Tryd.underlying5 (by kernel_rfl) (by rw [List.length_take, List.length_drop, hsl]; rfl) h1
  have el : cs.toList.drop 0 = (cs.toList.drop 0).take 384 ++ ((cs.toList.drop 384).take 48 ++ ([])) := ((cut_list cs.toList 0 384).trans (congrArg _ ((cut_list cs.toList 384 48).trans (congrArg _ (List.drop_eq_nil_of_le (by rw [hsl]; exact Nat.le_refl _))))))
  rw [e0, e1] at el
  refine ⟨⟨⟨f0⟩, f1⟩, ?_, k0, k1⟩
  congr 1
  apply Array.ext'
  exact el

end Go.Proofs.YtaodonmbanpieabDoor
