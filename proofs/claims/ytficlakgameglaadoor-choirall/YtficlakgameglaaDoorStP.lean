/-
  An argument that is a state, opened.
-/

import Derived.Test.YtficlakgameglaaDoorQJ
import Derived.Test.YtficlakgameglaaDoorQF
import Derived.OpenShut

import Derived.WideShapes

import Derived.ChangeArms

import Derived.ChangeSlices

import Derived.SizedLaws

namespace Go.Proofs.YtficlakgameglaaDoor

open Go.RowKit Go.ChangeShapes Go.WideShapes

set_option linter.unusedVariables false

set_option linter.unusedSimpArgs false

set_option maxRecDepth 20000

theorem spotN {w : World} {x : Addr} {v : Value} (h : w.cell? (x.add 0) = some v) : ∃ b off, x = ⟨b, off, none⟩ := by
  obtain ⟨b, off, spot⟩ := x
  have hs : spot = none := by
    have := World.cell?_spot h
    simpa [Addr.add] using this
  subst hs
  exact ⟨b, off, rfl⟩

/-- Bytes in rows of k, eight of them; eight numbers; four bools. -/
theorem lst_r8 {H : Type} {enc : TypeId × Value → H} {P : Program} {w : World} {b0 fuel : Nat} {sp : Nat → Bool} {held : Bool} {t e e8 : TypeId} {cs : List Value} {x : DataW H × List MemPlace}
    (ht : P.underlying t = some (.array 8 e)) (hk : P.underlying e = some (.array 32 e8)) (he : P.underlying e8 = some (.int .u8)) (hck : P.cellsOf e = 32) (hce : P.cellsOf e8 = 1) (hl : cs.length = 256) (h : DataW.trod enc P w b0 sp held fuel t cs = some x) :
    ∃ f : Nat → Int, cs = (List.range 256).map (fun j => Value.int .u8 (f j)) ∧ ∀ j, j < 256 → 0 ≤ f j ∧ f j < 256 := by
  obtain ⟨xs, m, rfl, _, _, hxl, hat⟩ := DataW.trod_array ht h
  have hcell : ∀ q, q < 256 → ∃ z : Int, cs[q]? = some (.int .u8 z) ∧ 0 ≤ z ∧ z < 256 := by
    intro q hq
    have ha := hat (q / 32) (by omega)
    rw [List.getElem?_eq_getElem (by omega), hck] at ha
    obtain ⟨g, hc, hb⟩ := lst_by hk he hce (by rw [List.length_take, List.length_drop, hl]; omega) ha
    refine ⟨g (q % 32), ?_, hb _ (by omega)⟩
    have := congrArg (·[q % 32]?) hc
    simp only [List.getElem?_take, List.getElem?_drop] at this
    rw [if_pos (by omega), List.getElem?_map, List.getElem?_range (by omega)] at this
    exact (congrArg (fun i => cs[i]?) (show q = q / 32 * 32 + q % 32 by omega)).trans this
  refine ⟨byteOf cs.toArray, ?_, fun j hj => ?_⟩
  · apply List.ext_getElem?
    intro i
    rw [List.getElem?_map]
    by_cases hi : i < 256
    · obtain ⟨z, hz, _⟩ := hcell i hi
      rw [List.getElem?_range hi, hz]
      show some _ = some (Value.int .u8 (byteOf cs.toArray i))
      unfold byteOf
      rw [List.getElem?_toArray, hz]
    · rw [List.getElem?_eq_none (by omega), List.getElem?_eq_none (by simpa using hi)]
      rfl
  · obtain ⟨z, hz, hb⟩ := hcell j hj
    unfold byteOf
    rw [List.getElem?_toArray, hz]
    exact hb

theorem lst_n8 {H : Type} {enc : TypeId × Value → H} {P : Program} {w : World} {b0 fuel : Nat} {sp : Nat → Bool} {held : Bool} {t e : TypeId} {cs : List Value} {x : DataW H × List MemPlace}
    (ht : P.underlying t = some (.array 8 e)) (he : P.underlying e = some (.int .u64)) (hce : P.cellsOf e = 1) (hl : cs.length = 8) (h : DataW.trod enc P w b0 sp held fuel t cs = some x) :
    ∃ f : Nat → Int, cs = [.int .u64 (f 0), .int .u64 (f 1), .int .u64 (f 2), .int .u64 (f 3), .int .u64 (f 4), .int .u64 (f 5), .int .u64 (f 6), .int .u64 (f 7)] ∧ ∀ j, j < 8 → 0 ≤ f j ∧ f j < 18446744073709551616 := by
  obtain ⟨xs, m, rfl, _, _, hxl, hat⟩ := DataW.trod_array ht h
  have hcell : ∀ i, i < 8 → ∃ z, cs[i]? = some (.int .u64 z) ∧ 0 ≤ z ∧ z < 18446744073709551616 := by
    intro i hi
    have ha := hat i hi
    rw [List.getElem?_eq_getElem (by omega)] at ha
    obtain ⟨z, hc, _, hwf⟩ := DataW.trod_int he ha
    have hb := bounds_u64 hwf
    refine ⟨z, ?_, by omega, by omega⟩
    have := congrArg (·[0]?) hc
    simpa [hce, List.getElem?_take, List.getElem?_drop] using this
  refine ⟨fun i => match cs[i]? with | some (.int _ b) => b | _ => 0, ?_, fun j hj => ?_⟩
  · apply List.ext_getElem?
    intro i
    by_cases hi : i < 8
    · obtain ⟨z, hz, _⟩ := hcell i hi
      rcases (by omega : i = 0 ∨ i = 1 ∨ i = 2 ∨ i = 3 ∨ i = 4 ∨ i = 5 ∨ i = 6 ∨ i = 7) with rfl | rfl | rfl | rfl | rfl | rfl | rfl | rfl
      all_goals
        rw [hz]
        simp [hz]
    · rw [List.getElem?_eq_none (by omega), List.getElem?_eq_none (by simpa using hi)]
  · obtain ⟨z, hz, hb⟩ := hcell j hj
    simp only [hz]
    exact hb

theorem lst_b4 {H : Type} {enc : TypeId × Value → H} {P : Program} {w : World} {b0 fuel : Nat} {sp : Nat → Bool} {held : Bool} {t e : TypeId} {cs : List Value} {x : DataW H × List MemPlace}
    (ht : P.underlying t = some (.array 4 e)) (he : P.underlying e = some .bool) (hce : P.cellsOf e = 1) (hl : cs.length = 4) (h : DataW.trod enc P w b0 sp held fuel t cs = some x) :
    ∃ f : Nat → Bool, cs = [.bool (f 0), .bool (f 1), .bool (f 2), .bool (f 3)] := by
  obtain ⟨xs, m, rfl, _, _, hxl, hat⟩ := DataW.trod_array ht h
  have hcell : ∀ i, i < 4 → ∃ z, cs[i]? = some (.bool z) := by
    intro i hi
    have ha := hat i hi
    rw [List.getElem?_eq_getElem (by omega)] at ha
    obtain ⟨z, hc, _⟩ := DataW.trod_bool he ha
    refine ⟨z, ?_⟩
    have := congrArg (·[0]?) hc
    simpa [hce, List.getElem?_take, List.getElem?_drop] using this
  refine ⟨fun i => match cs[i]? with | some (.bool b) => b | _ => false, ?_⟩
  apply List.ext_getElem?
  intro i
  by_cases hi : i < 4
  · obtain ⟨z, hz⟩ := hcell i hi
    rcases (by omega : i = 0 ∨ i = 1 ∨ i = 2 ∨ i = 3) with rfl | rfl | rfl | rfl
    all_goals
      rw [hz]
      simp [hz]
  · rw [List.getElem?_eq_none (by omega), List.getElem?_eq_none (by simpa using hi)]

/-- Slices. -/
theorem lst_u64 {H : Type} {enc : TypeId × Value → H} {w : World} {b0 fuel : Nat} {held : Bool} {cs : List Value} {y : DataW H × List MemPlace}
    (h : DataW.trod enc Tryd.prog w b0 (fun _ => true) held fuel 37 cs = some y) : ∃ l : LV Int, cs = [.slice l.a l.n l.c] ∧ Z.Nms .u64 w l.a l.n l.z ∧ (l.a = none → l.n = 0 ∧ l.c = 0) ∧ l.n ≤ 9223372036854775807 ∧ ∀ j, 0 ≤ l.z j ∧ l.z j < 18446744073709551616 := by
  rcases open_ints Tryd.underlying37 Tryd.underlying22 (by kernel_rfl) h with ⟨hcs, hx⟩ | ⟨x, l, c, zs, hcs, _, hl, hm, hz, hx, hcell, hwz⟩
  · exact ⟨⟨none, 0, 0, fun _ => 0⟩, hcs, .inl rfl, fun _ => ⟨rfl, rfl⟩, Nat.zero_le _, fun _ => (by decide : (0 : Int) ≤ 0 ∧ (0 : Int) < 18446744073709551616)⟩
  · unfold maxLen at hm
    refine ⟨⟨some x, l, c, fun j => zs.getD j 0⟩, hcs, ?_, fun h => (by cases h), (by show l ≤ _; omega), fun j => ?_⟩
    · by_cases h0 : l = 0
      · exact .inl h0
      · simp only [if_true] at hz
        obtain ⟨b, off, rfl⟩ := spotN (hcell 0 (by omega))
        refine .inr ⟨b, off, rfl, World.block_lt_of_cell? w _ (hcell 0 (by omega)), fun j hj => ?_⟩
        have hj' : j < l := hj
        have := hcell j (by omega)
        rw [addr_add] at this
        exact this
    · show 0 ≤ zs.getD j 0 ∧ zs.getD j 0 < 18446744073709551616
      by_cases hq : j < zs.length
      · rw [List.getD_eq_getElem?_getD, List.getElem?_eq_getElem hq, Option.getD_some]
        have := bounds_u64 (hwz _ (List.getElem_mem hq))
        omega
      · rw [List.getD_eq_getElem?_getD, List.getElem?_eq_none (by omega)]
        decide

theorem lst_u8 {H : Type} {enc : TypeId × Value → H} {w : World} {b0 fuel : Nat} {held : Bool} {cs : List Value} {y : DataW H × List MemPlace}
    (h : DataW.trod enc Tryd.prog w b0 (fun _ => true) held fuel 39 cs = some y) : ∃ l : LV Int, cs = [.slice l.a l.n l.c] ∧ Bys w l.a l.n l.c l.z ∧ ∀ j, 0 ≤ l.z j ∧ l.z j < 256 := by
  rcases open_ints Tryd.underlying39 Tryd.underlying5 (by kernel_rfl) h with ⟨hcs, hx⟩ | ⟨x, l, c, zs, hcs, _, hl, hm, hz, hx, hcell, hwz⟩
  · exact ⟨⟨none, 0, 0, fun _ => 0⟩, hcs, .inl ⟨rfl, rfl, rfl⟩, fun _ => (by decide : (0 : Int) ≤ 0 ∧ (0 : Int) < 256)⟩
  · unfold maxLen at hm
    refine ⟨⟨some x, l, c, fun j => zs.getD j 0⟩, hcs, ?_, fun j => ?_⟩
    · by_cases h0 : l = 0
      · exact .inr (.inl ⟨x, rfl, h0⟩)
      · simp only [if_true] at hz
        obtain ⟨b, off, rfl⟩ := spotN (hcell 0 (by omega))
        refine .inr (.inr ⟨b, off, rfl, hl, by show c ≤ _; omega, World.block_lt_of_cell? w _ (hcell 0 (by omega)), fun j hj => ?_⟩)
        have hj' : j < l := hj
        have := hcell j (by omega)
        rw [addr_add] at this
        exact this
    · show 0 ≤ zs.getD j 0 ∧ zs.getD j 0 < 256
      by_cases hq : j < zs.length
      · rw [List.getD_eq_getElem?_getD, List.getElem?_eq_getElem hq, Option.getD_some]
        have := bounds_u8 (hwz _ (List.getElem_mem hq))
        omega
      · rw [List.getD_eq_getElem?_getD, List.getElem?_eq_none (by omega)]
        decide

set_option maxRecDepth 100000 in
theorem oplS_Fork {H : Type} {enc : TypeId × Value → H} {w : World} {b0 fuel : Nat} {sp : Nat → Bool} {held : Bool} {cs : List Value} {y : DataW H × List MemPlace}
    (hsl : cs.length = 9) (h : DataW.trod enc Tryd.prog w b0 sp held fuel 28 cs = some y) : ∃ x : VFork, cs = celL (sFork x) ∧ OkFork x := by
  obtain ⟨xs, n, _, _, _, hxl, hat⟩ := DataW.trod_struct Tryd.underlying28 h
  have hx : xs.length = 3 := hxl
  have h0 := hat 0 _ rfl
  rw [List.getElem?_eq_getElem (by omega)] at h0
  have c0 : Tryd.prog.cellsOf 26 = 4 := by kernel_rfl
  replace h0 : DataW.trod enc Tryd.prog w b0 sp held n 26 ((cs.drop 0).take (Tryd.prog.cellsOf 26)) = some xs[0] := h0
  rw [c0] at h0
  obtain ⟨f0, e0, k0⟩ := lst_by Tryd.underlying26 Tryd.underlying5 (by kernel_rfl) (by rw [List.length_take, List.length_drop, hsl]; rfl) h0
  have h1 := hat 1 _ rfl
  rw [List.getElem?_eq_getElem (by omega)] at h1
  have c1 : Tryd.prog.cellsOf 26 = 4 := by kernel_rfl
  replace h1 : DataW.trod enc Tryd.prog w b0 sp held n 26 ((cs.drop 4).take (Tryd.prog.cellsOf 26)) = some xs[1] := h1
  rw [c1] at h1
  obtain ⟨f1, e1, k1⟩ := lst_by Tryd.underlying26 Tryd.underlying5 (by kernel_rfl) (by rw [List.length_take, List.length_drop, hsl]; rfl) h1
  have h2 := hat 2 _ rfl
  rw [List.getElem?_eq_getElem (by omega)] at h2
  have c2 : Tryd.prog.cellsOf 22 = 1 := by kernel_rfl
  replace h2 : DataW.trod enc Tryd.prog w b0 sp held n 22 ((cs.drop 8).take (Tryd.prog.cellsOf 22)) = some xs[2] := h2
  rw [c2] at h2
  obtain ⟨f2, e2, _, w2⟩ := DataW.trod_int Tryd.underlying22 h2
  have k2 := bounds_u64 w2
  have el : cs.drop 0 = (cs.drop 0).take 4 ++ ((cs.drop 4).take 4 ++ ((cs.drop 8).take 1 ++ ([]))) := ((cut_list cs 0 4).trans (congrArg _ ((cut_list cs 4 4).trans (congrArg _ ((cut_list cs 8 1).trans (congrArg _ (List.drop_eq_nil_of_le (by rw [hsl]; exact Nat.le_refl _))))))))
  rw [e0, e1, e2] at el
  refine ⟨⟨f0, f1, f2⟩, ?_, k0, k1, ⟨k2.1, Int.lt_of_le_of_lt k2.2 (by decide)⟩⟩
  exact el

set_option maxRecDepth 100000 in
theorem oplS_Eth1 {H : Type} {enc : TypeId × Value → H} {w : World} {b0 fuel : Nat} {sp : Nat → Bool} {held : Bool} {cs : List Value} {y : DataW H × List MemPlace}
    (hsl : cs.length = 65) (h : DataW.trod enc Tryd.prog w b0 sp held fuel 34 cs = some y) : ∃ x : VEth1, cs = celL (sEth1 x) ∧ OkEth1 x := by
  obtain ⟨xs, n, _, _, _, hxl, hat⟩ := DataW.trod_struct Tryd.underlying34 h
  have hx : xs.length = 3 := hxl
  have h0 := hat 0 _ rfl
  rw [List.getElem?_eq_getElem (by omega)] at h0
  have c0 : Tryd.prog.cellsOf 24 = 32 := by kernel_rfl
  replace h0 : DataW.trod enc Tryd.prog w b0 sp held n 24 ((cs.drop 0).take (Tryd.prog.cellsOf 24)) = some xs[0] := h0
  rw [c0] at h0
  obtain ⟨f0, e0, k0⟩ := lst_by Tryd.underlying24 Tryd.underlying5 (by kernel_rfl) (by rw [List.length_take, List.length_drop, hsl]; rfl) h0
  have h1 := hat 1 _ rfl
  rw [List.getElem?_eq_getElem (by omega)] at h1
  have c1 : Tryd.prog.cellsOf 22 = 1 := by kernel_rfl
  replace h1 : DataW.trod enc Tryd.prog w b0 sp held n 22 ((cs.drop 32).take (Tryd.prog.cellsOf 22)) = some xs[1] := h1
  rw [c1] at h1
  obtain ⟨f1, e1, _, w1⟩ := DataW.trod_int Tryd.underlying22 h1
  have k1 := bounds_u64 w1
  have h2 := hat 2 _ rfl
  rw [List.getElem?_eq_getElem (by omega)] at h2
  have c2 : Tryd.prog.cellsOf 24 = 32 := by kernel_rfl
  replace h2 : DataW.trod enc Tryd.prog w b0 sp held n 24 ((cs.drop 33).take (Tryd.prog.cellsOf 24)) = some xs[2] := h2
  rw [c2] at h2
  obtain ⟨f2, e2, k2⟩ := lst_by Tryd.underlying24 Tryd.underlying5 (by kernel_rfl) (by rw [List.length_take, List.length_drop, hsl]; rfl) h2
  have el : cs.drop 0 = (cs.drop 0).take 32 ++ ((cs.drop 32).take 1 ++ ((cs.drop 33).take 32 ++ ([]))) := ((cut_list cs 0 32).trans (congrArg _ ((cut_list cs 32 1).trans (congrArg _ ((cut_list cs 33 32).trans (congrArg _ (List.drop_eq_nil_of_le (by rw [hsl]; exact Nat.le_refl _))))))))
  rw [e0, e1, e2] at el
  refine ⟨⟨f0, f1, f2⟩, ?_, k0, ⟨k1.1, Int.lt_of_le_of_lt k1.2 (by decide)⟩, k2⟩
  exact el

set_option maxRecDepth 100000 in
theorem oplS_Validator {H : Type} {enc : TypeId × Value → H} {w : World} {b0 fuel : Nat} {sp : Nat → Bool} {held : Bool} {cs : List Value} {y : DataW H × List MemPlace}
    (hsl : cs.length = 86) (h : DataW.trod enc Tryd.prog w b0 sp held fuel 82 cs = some y) : ∃ x : VValidator, cs = celL (sValidator x) ∧ OkValidator x := by
  obtain ⟨xs, n, _, _, _, hxl, hat⟩ := DataW.trod_struct Tryd.underlying82 h
  have hx : xs.length = 8 := hxl
  have h0 := hat 0 _ rfl
  rw [List.getElem?_eq_getElem (by omega)] at h0
  have c0 : Tryd.prog.cellsOf 44 = 48 := by kernel_rfl
  replace h0 : DataW.trod enc Tryd.prog w b0 sp held n 44 ((cs.drop 0).take (Tryd.prog.cellsOf 44)) = some xs[0] := h0
  rw [c0] at h0
  obtain ⟨f0, e0, k0⟩ := lst_by Tryd.underlying44 Tryd.underlying5 (by kernel_rfl) (by rw [List.length_take, List.length_drop, hsl]; rfl) h0
  have h1 := hat 1 _ rfl
  rw [List.getElem?_eq_getElem (by omega)] at h1
  have c1 : Tryd.prog.cellsOf 24 = 32 := by kernel_rfl
  replace h1 : DataW.trod enc Tryd.prog w b0 sp held n 24 ((cs.drop 48).take (Tryd.prog.cellsOf 24)) = some xs[1] := h1
  rw [c1] at h1
  obtain ⟨f1, e1, k1⟩ := lst_by Tryd.underlying24 Tryd.underlying5 (by kernel_rfl) (by rw [List.length_take, List.length_drop, hsl]; rfl) h1
  have h2 := hat 2 _ rfl
  rw [List.getElem?_eq_getElem (by omega)] at h2
  have c2 : Tryd.prog.cellsOf 22 = 1 := by kernel_rfl
  replace h2 : DataW.trod enc Tryd.prog w b0 sp held n 22 ((cs.drop 80).take (Tryd.prog.cellsOf 22)) = some xs[2] := h2
  rw [c2] at h2
  obtain ⟨f2, e2, _, w2⟩ := DataW.trod_int Tryd.underlying22 h2
  have k2 := bounds_u64 w2
  have h3 := hat 3 _ rfl
  rw [List.getElem?_eq_getElem (by omega)] at h3
  have c3 : Tryd.prog.cellsOf 4 = 1 := by kernel_rfl
  replace h3 : DataW.trod enc Tryd.prog w b0 sp held n 4 ((cs.drop 81).take (Tryd.prog.cellsOf 4)) = some xs[3] := h3
  rw [c3] at h3
  obtain ⟨f3, e3, _⟩ := DataW.trod_bool Tryd.underlying4 h3
  have h4 := hat 4 _ rfl
  rw [List.getElem?_eq_getElem (by omega)] at h4
  have c4 : Tryd.prog.cellsOf 22 = 1 := by kernel_rfl
  replace h4 : DataW.trod enc Tryd.prog w b0 sp held n 22 ((cs.drop 82).take (Tryd.prog.cellsOf 22)) = some xs[4] := h4
  rw [c4] at h4
  obtain ⟨f4, e4, _, w4⟩ := DataW.trod_int Tryd.underlying22 h4
  have k4 := bounds_u64 w4
  have h5 := hat 5 _ rfl
  rw [List.getElem?_eq_getElem (by omega)] at h5
  have c5 : Tryd.prog.cellsOf 22 = 1 := by kernel_rfl
  replace h5 : DataW.trod enc Tryd.prog w b0 sp held n 22 ((cs.drop 83).take (Tryd.prog.cellsOf 22)) = some xs[5] := h5
  rw [c5] at h5
  obtain ⟨f5, e5, _, w5⟩ := DataW.trod_int Tryd.underlying22 h5
  have k5 := bounds_u64 w5
  have h6 := hat 6 _ rfl
  rw [List.getElem?_eq_getElem (by omega)] at h6
  have c6 : Tryd.prog.cellsOf 22 = 1 := by kernel_rfl
  replace h6 : DataW.trod enc Tryd.prog w b0 sp held n 22 ((cs.drop 84).take (Tryd.prog.cellsOf 22)) = some xs[6] := h6
  rw [c6] at h6
  obtain ⟨f6, e6, _, w6⟩ := DataW.trod_int Tryd.underlying22 h6
  have k6 := bounds_u64 w6
  have h7 := hat 7 _ rfl
  rw [List.getElem?_eq_getElem (by omega)] at h7
  have c7 : Tryd.prog.cellsOf 22 = 1 := by kernel_rfl
  replace h7 : DataW.trod enc Tryd.prog w b0 sp held n 22 ((cs.drop 85).take (Tryd.prog.cellsOf 22)) = some xs[7] := h7
  rw [c7] at h7
  obtain ⟨f7, e7, _, w7⟩ := DataW.trod_int Tryd.underlying22 h7
  have k7 := bounds_u64 w7
  have el : cs.drop 0 = (cs.drop 0).take 48 ++ ((cs.drop 48).take 32 ++ ((cs.drop 80).take 1 ++ ((cs.drop 81).take 1 ++ ((cs.drop 82).take 1 ++ ((cs.drop 83).take 1 ++ ((cs.drop 84).take 1 ++ ((cs.drop 85).take 1 ++ ([])))))))) := ((cut_list cs 0 48).trans (congrArg _ ((cut_list cs 48 32).trans (congrArg _ ((cut_list cs 80 1).trans (congrArg _ ((cut_list cs 81 1).trans (congrArg _ ((cut_list cs 82 1).trans (congrArg _ ((cut_list cs 83 1).trans (congrArg _ ((cut_list cs 84 1).trans (congrArg _ ((cut_list cs 85 1).trans (congrArg _ (List.drop_eq_nil_of_le (by rw [hsl]; exact Nat.le_refl _))))))))))))))))))
  rw [e0, e1, e2, e3, e4, e5, e6, e7] at el
  refine ⟨⟨f0, f1, f2, f3, f4, f5, f6, f7⟩, ?_, k0, k1, ⟨k2.1, Int.lt_of_le_of_lt k2.2 (by decide)⟩, trivial, ⟨k4.1, Int.lt_of_le_of_lt k4.2 (by decide)⟩, ⟨k5.1, Int.lt_of_le_of_lt k5.2 (by decide)⟩, ⟨k6.1, Int.lt_of_le_of_lt k6.2 (by decide)⟩, ⟨k7.1, Int.lt_of_le_of_lt k7.2 (by decide)⟩⟩
  exact el

set_option maxRecDepth 100000 in
theorem oplS_Checkpoint {H : Type} {enc : TypeId × Value → H} {w : World} {b0 fuel : Nat} {sp : Nat → Bool} {held : Bool} {cs : List Value} {y : DataW H × List MemPlace}
    (hsl : cs.length = 33) (h : DataW.trod enc Tryd.prog w b0 sp held fuel 42 cs = some y) : ∃ x : VCheckpoint, cs = celL (sCheckpoint x) ∧ OkCheckpoint x := by
  obtain ⟨xs, n, _, _, _, hxl, hat⟩ := DataW.trod_struct Tryd.underlying42 h
  have hx : xs.length = 2 := hxl
  have h0 := hat 0 _ rfl
  rw [List.getElem?_eq_getElem (by omega)] at h0
  have c0 : Tryd.prog.cellsOf 22 = 1 := by kernel_rfl
  replace h0 : DataW.trod enc Tryd.prog w b0 sp held n 22 ((cs.drop 0).take (Tryd.prog.cellsOf 22)) = some xs[0] := h0
  rw [c0] at h0
  obtain ⟨f0, e0, _, w0⟩ := DataW.trod_int Tryd.underlying22 h0
  have k0 := bounds_u64 w0
  have h1 := hat 1 _ rfl
  rw [List.getElem?_eq_getElem (by omega)] at h1
  have c1 : Tryd.prog.cellsOf 24 = 32 := by kernel_rfl
  replace h1 : DataW.trod enc Tryd.prog w b0 sp held n 24 ((cs.drop 1).take (Tryd.prog.cellsOf 24)) = some xs[1] := h1
  rw [c1] at h1
  obtain ⟨f1, e1, k1⟩ := lst_by Tryd.underlying24 Tryd.underlying5 (by kernel_rfl) (by rw [List.length_take, List.length_drop, hsl]; rfl) h1
  have el : cs.drop 0 = (cs.drop 0).take 1 ++ ((cs.drop 1).take 32 ++ ([])) := ((cut_list cs 0 1).trans (congrArg _ ((cut_list cs 1 32).trans (congrArg _ (List.drop_eq_nil_of_le (by rw [hsl]; exact Nat.le_refl _))))))
  rw [e0, e1] at el
  refine ⟨⟨f0, f1⟩, ?_, ⟨k0.1, Int.lt_of_le_of_lt k0.2 (by decide)⟩, k1⟩
  exact el

set_option maxRecDepth 100000 in
theorem oplS_Header {H : Type} {enc : TypeId × Value → H} {w : World} {b0 fuel : Nat} {sp : Nat → Bool} {held : Bool} {cs : List Value} {y : DataW H × List MemPlace}
    (hsl : cs.length = 98) (h : DataW.trod enc Tryd.prog w b0 sp held fuel 30 cs = some y) : ∃ x : VHeader, cs = celL (sHeader x) ∧ OkHeader x := by
  obtain ⟨xs, n, _, _, _, hxl, hat⟩ := DataW.trod_struct Tryd.underlying30 h
  have hx : xs.length = 5 := hxl
  have h0 := hat 0 _ rfl
  rw [List.getElem?_eq_getElem (by omega)] at h0
  have c0 : Tryd.prog.cellsOf 22 = 1 := by kernel_rfl
  replace h0 : DataW.trod enc Tryd.prog w b0 sp held n 22 ((cs.drop 0).take (Tryd.prog.cellsOf 22)) = some xs[0] := h0
  rw [c0] at h0
  obtain ⟨f0, e0, _, w0⟩ := DataW.trod_int Tryd.underlying22 h0
  have k0 := bounds_u64 w0
  have h1 := hat 1 _ rfl
  rw [List.getElem?_eq_getElem (by omega)] at h1
  have c1 : Tryd.prog.cellsOf 22 = 1 := by kernel_rfl
  replace h1 : DataW.trod enc Tryd.prog w b0 sp held n 22 ((cs.drop 1).take (Tryd.prog.cellsOf 22)) = some xs[1] := h1
  rw [c1] at h1
  obtain ⟨f1, e1, _, w1⟩ := DataW.trod_int Tryd.underlying22 h1
  have k1 := bounds_u64 w1
  have h2 := hat 2 _ rfl
  rw [List.getElem?_eq_getElem (by omega)] at h2
  have c2 : Tryd.prog.cellsOf 24 = 32 := by kernel_rfl
  replace h2 : DataW.trod enc Tryd.prog w b0 sp held n 24 ((cs.drop 2).take (Tryd.prog.cellsOf 24)) = some xs[2] := h2
  rw [c2] at h2
  obtain ⟨f2, e2, k2⟩ := lst_by Tryd.underlying24 Tryd.underlying5 (by kernel_rfl) (by rw [List.length_take, List.length_drop, hsl]; rfl) h2
  have h3 := hat 3 _ rfl
  rw [List.getElem?_eq_getElem (by omega)] at h3
  have c3 : Tryd.prog.cellsOf 24 = 32 := by kernel_rfl
  replace h3 : DataW.trod enc Tryd.prog w b0 sp held n 24 ((cs.drop 34).take (Tryd.prog.cellsOf 24)) = some xs[3] := h3
  rw [c3] at h3
  obtain ⟨f3, e3, k3⟩ := lst_by Tryd.underlying24 Tryd.underlying5 (by kernel_rfl) (by rw [List.length_take, List.length_drop, hsl]; rfl) h3
  have h4 := hat 4 _ rfl
  rw [List.getElem?_eq_getElem (by omega)] at h4
  have c4 : Tryd.prog.cellsOf 24 = 32 := by kernel_rfl
  replace h4 : DataW.trod enc Tryd.prog w b0 sp held n 24 ((cs.drop 66).take (Tryd.prog.cellsOf 24)) = some xs[4] := h4
  rw [c4] at h4
  obtain ⟨f4, e4, k4⟩ := lst_by Tryd.underlying24 Tryd.underlying5 (by kernel_rfl) (by rw [List.length_take, List.length_drop, hsl]; rfl) h4
  have el : cs.drop 0 = (cs.drop 0).take 1 ++ ((cs.drop 1).take 1 ++ ((cs.drop 2).take 32 ++ ((cs.drop 34).take 32 ++ ((cs.drop 66).take 32 ++ ([]))))) := ((cut_list cs 0 1).trans (congrArg _ ((cut_list cs 1 1).trans (congrArg _ ((cut_list cs 2 32).trans (congrArg _ ((cut_list cs 34 32).trans (congrArg _ ((cut_list cs 66 32).trans (congrArg _ (List.drop_eq_nil_of_le (by rw [hsl]; exact Nat.le_refl _))))))))))))
  rw [e0, e1, e2, e3, e4] at el
  refine ⟨⟨f0, f1, f2, f3, f4⟩, ?_, ⟨k0.1, Int.lt_of_le_of_lt k0.2 (by decide)⟩, ⟨k1.1, Int.lt_of_le_of_lt k1.2 (by decide)⟩, k2, k3, k4⟩
  exact el

set_option maxRecDepth 100000 in
theorem oplS_Committee {H : Type} {enc : TypeId × Value → H} {w : World} {b0 fuel : Nat} {sp : Nat → Bool} {held : Bool} {cs : List Value} {y : DataW H × List MemPlace}
    (hsl : cs.length = 432) (h : DataW.trod enc Tryd.prog w b0 sp held fuel 47 cs = some y) : ∃ x : VCommittee, cs = celL (sCommittee x) ∧ OkCommittee x := by
  obtain ⟨xs, n, _, _, _, hxl, hat⟩ := DataW.trod_struct Tryd.underlying47 h
  have hx : xs.length = 2 := hxl
  have h0 := hat 0 _ rfl
  rw [List.getElem?_eq_getElem (by omega)] at h0
  have c0 : Tryd.prog.cellsOf 45 = 384 := by kernel_rfl
  replace h0 : DataW.trod enc Tryd.prog w b0 sp held n 45 ((cs.drop 0).take (Tryd.prog.cellsOf 45)) = some xs[0] := h0
  rw [c0] at h0
  obtain ⟨f0, e0, k0⟩ := lst_ks Tryd.underlying45 Tryd.underlying44 Tryd.underlying5 (by kernel_rfl) (by kernel_rfl) (by rw [List.length_take, List.length_drop, hsl]; rfl) h0
  have h1 := hat 1 _ rfl
  rw [List.getElem?_eq_getElem (by omega)] at h1
  have c1 : Tryd.prog.cellsOf 44 = 48 := by kernel_rfl
  replace h1 : DataW.trod enc Tryd.prog w b0 sp held n 44 ((cs.drop 384).take (Tryd.prog.cellsOf 44)) = some xs[1] := h1
  rw [c1] at h1
  obtain ⟨f1, e1, k1⟩ := lst_by Tryd.underlying44 Tryd.underlying5 (by kernel_rfl) (by rw [List.length_take, List.length_drop, hsl]; rfl) h1
  have el : cs.drop 0 = (cs.drop 0).take 384 ++ ((cs.drop 384).take 48 ++ ([])) := ((cut_list cs 0 384).trans (congrArg _ ((cut_list cs 384 48).trans (congrArg _ (List.drop_eq_nil_of_le (by rw [hsl]; exact Nat.le_refl _))))))
  rw [e0, e1] at el
  exact ⟨⟨⟨f0⟩, f1⟩, el, k0, k1⟩

theorem lst_Eth1 {H : Type} {enc : TypeId × Value → H} {w : World} {b0 fuel : Nat} {held : Bool} {cs : List Value} {y : DataW H × List MemPlace}
    (h : DataW.trod enc Tryd.prog w b0 (fun _ => true) held fuel 35 cs = some y) : ∃ l : LV VEth1, cs = [.slice l.a l.n l.c] ∧ Els w l.a l.n 65 (fun i => celL (sEth1 (l.z i))) ∧ (l.a = none → l.n = 0 ∧ l.c = 0) ∧ l.n ≤ 9223372036854775807 ∧ ∀ j, j < l.n → OkEth1 (l.z j) := by
  have hct : Tryd.prog.cellsOf 34 = 65 := by kernel_rfl
  rcases DataW.trod_slice Tryd.underlying35 h with ⟨hcs, hx⟩ | ⟨x, l, c, el, rest, n, rfl, hcs, hx, hbs, hl, hm, hel, hat, hsp, _⟩
  · exact ⟨⟨none, 0, 0, fun _ => oEth1⟩, hcs, .inl rfl, fun _ => ⟨rfl, rfl⟩, Nat.zero_le _, fun j hj => absurd hj (Nat.not_lt_zero _)⟩
  · have key : ∀ i, i < l → ∃ v : VEth1, OkEth1 v ∧ ∀ j, j < 65 → w.cell? ((x.add (i * 65)).add j) = (celL (sEth1 v))[j]? := fun i hi => by
      have h1 := hat i hi
      rw [List.getElem?_eq_getElem (by omega), Option.bind_eq_some_iff, hct] at h1
      obtain ⟨ci, hci, ht⟩ := h1
      obtain ⟨q1, q2, q3⟩ := World.cells?_some hci
      obtain ⟨v, ev, hv⟩ := oplS_Eth1 (by first | exact q2 | exact q1) ht
      refine ⟨v, hv, fun j hj => ?_⟩
      rw [← ev]
      exact q3 j hj
    unfold maxLen at hm
    have hz : ∃ z : Nat → VEth1, ∀ i, i < l → OkEth1 (z i) ∧ ∀ j, j < 65 → w.cell? ((x.add (i * 65)).add j) = (celL (sEth1 (z i)))[j]? :=
      ⟨fun i => if h : i < l then Classical.choose (key i h) else oEth1, fun i hi => by simp only [dif_pos hi]; exact Classical.choose_spec (key i hi)⟩
    obtain ⟨z, hz⟩ := hz
    refine ⟨⟨some x, l, c, z⟩, hcs, ?_, fun h => (by cases h), (by show l ≤ _; omega), fun j hj => (hz j hj).1⟩
    by_cases h0 : l = 0
    · exact .inl h0
    · have hlen : ∀ v : VEth1, (celL (sEth1 v)).length = 65 := fun v => by rw [celL_len]; rfl
      have h00 := (hz 0 (by omega)).2 0 (by omega)
      rw [List.getElem?_eq_getElem (by rw [hlen]; omega), Nat.zero_mul] at h00
      obtain ⟨b, off, rfl⟩ : ∃ b off, x = ⟨b, off, none⟩ := by
        obtain ⟨b, off, spot⟩ := x
        have hs : spot = none := by
          have := World.cell?_spot h00
          simpa [Addr.add] using this
        subst hs
        exact ⟨b, off, rfl⟩
      refine .inr ⟨b, off, rfl, ?_, fun i hi j u hj => ?_⟩
      · exact World.block_lt_of_cell? w _ (by rw [addr_add, addr_add] at h00; exact h00)
      · have hlt : j < 65 := by have := (List.getElem?_eq_some_iff.1 hj).1; rwa [hlen] at this
        have := (hz i hi).2 j hlt
        rw [addr_add, addr_add, Nat.mul_comm, hj] at this
        exact this

theorem lst_Validator {H : Type} {enc : TypeId × Value → H} {w : World} {b0 fuel : Nat} {held : Bool} {cs : List Value} {y : DataW H × List MemPlace}
    (h : DataW.trod enc Tryd.prog w b0 (fun _ => true) held fuel 36 cs = some y) : ∃ l : LV VValidator, cs = [.slice l.a l.n l.c] ∧ Els w l.a l.n 86 (fun i => celL (sValidator (l.z i))) ∧ (l.a = none → l.n = 0 ∧ l.c = 0) ∧ l.n ≤ 9223372036854775807 ∧ ∀ j, j < l.n → OkValidator (l.z j) := by
  have hct : Tryd.prog.cellsOf 82 = 86 := by kernel_rfl
  rcases DataW.trod_slice Tryd.underlying36 h with ⟨hcs, hx⟩ | ⟨x, l, c, el, rest, n, rfl, hcs, hx, hbs, hl, hm, hel, hat, hsp, _⟩
  · exact ⟨⟨none, 0, 0, fun _ => oValidator⟩, hcs, .inl rfl, fun _ => ⟨rfl, rfl⟩, Nat.zero_le _, fun j hj => absurd hj (Nat.not_lt_zero _)⟩
  · have key : ∀ i, i < l → ∃ v : VValidator, OkValidator v ∧ ∀ j, j < 86 → w.cell? ((x.add (i * 86)).add j) = (celL (sValidator v))[j]? := fun i hi => by
      have h1 := hat i hi
      rw [List.getElem?_eq_getElem (by omega), Option.bind_eq_some_iff, hct] at h1
      obtain ⟨ci, hci, ht⟩ := h1
      obtain ⟨q1, q2, q3⟩ := World.cells?_some hci
      obtain ⟨v, ev, hv⟩ := oplS_Validator (by first | exact q2 | exact q1) ht
      refine ⟨v, hv, fun j hj => ?_⟩
      rw [← ev]
      exact q3 j hj
    unfold maxLen at hm
    have hz : ∃ z : Nat → VValidator, ∀ i, i < l → OkValidator (z i) ∧ ∀ j, j < 86 → w.cell? ((x.add (i * 86)).add j) = (celL (sValidator (z i)))[j]? :=
      ⟨fun i => if h : i < l then Classical.choose (key i h) else oValidator, fun i hi => by simp only [dif_pos hi]; exact Classical.choose_spec (key i hi)⟩
    obtain ⟨z, hz⟩ := hz
    refine ⟨⟨some x, l, c, z⟩, hcs, ?_, fun h => (by cases h), (by show l ≤ _; omega), fun j hj => (hz j hj).1⟩
    by_cases h0 : l = 0
    · exact .inl h0
    · have hlen : ∀ v : VValidator, (celL (sValidator v)).length = 86 := fun v => by rw [celL_len]; rfl
      have h00 := (hz 0 (by omega)).2 0 (by omega)
      rw [List.getElem?_eq_getElem (by rw [hlen]; omega), Nat.zero_mul] at h00
      obtain ⟨b, off, rfl⟩ : ∃ b off, x = ⟨b, off, none⟩ := by
        obtain ⟨b, off, spot⟩ := x
        have hs : spot = none := by
          have := World.cell?_spot h00
          simpa [Addr.add] using this
        subst hs
        exact ⟨b, off, rfl⟩
      refine .inr ⟨b, off, rfl, ?_, fun i hi j u hj => ?_⟩
      · exact World.block_lt_of_cell? w _ (by rw [addr_add, addr_add] at h00; exact h00)
      · have hlt : j < 86 := by have := (List.getElem?_eq_some_iff.1 hj).1; rwa [hlen] at this
        have := (hz i hi).2 j hlt
        rw [addr_add, addr_add, Nat.mul_comm, hj] at this
        exact this

theorem lst_root {H : Type} {enc : TypeId × Value → H} {w : World} {b0 fuel : Nat} {held : Bool} {cs : List Value} {y : DataW H × List MemPlace}
    (h : DataW.trod enc Tryd.prog w b0 (fun _ => true) held fuel 32 cs = some y) : ∃ l : LV Int, cs = [.slice l.a l.n l.c] ∧ Rts w l.a l.n l.c l.z ∧ ∀ j, j < 32 * l.n → 0 ≤ l.z j ∧ l.z j < 256 := by
  have hct : Tryd.prog.cellsOf 24 = 32 := by kernel_rfl
  rcases DataW.trod_slice Tryd.underlying32 h with ⟨hcs, hx⟩ | ⟨x, l, c, el, rest, n, rfl, hcs, hx, hbs, hl, hm, hel, hat, hsp, _⟩
  · exact ⟨⟨none, 0, 0, fun _ => 0⟩, hcs, .inl ⟨rfl, rfl, rfl⟩, fun j hj => by have : j < 32 * 0 := hj; omega⟩
  · have key : ∀ q, q < 32 * l → ∃ z, w.cell? ((x.add (q / 32 * 32)).add (q % 32)) = some (.int .u8 z) ∧ 0 ≤ z ∧ z < 256 := fun q hq => by
      have h1 := hat (q / 32) (by omega)
      rw [List.getElem?_eq_getElem (by omega), Option.bind_eq_some_iff, hct] at h1
      obtain ⟨ci, hci, ht⟩ := h1
      obtain ⟨q1, q2, q3⟩ := World.cells?_some hci
      obtain ⟨f, ef, hf⟩ := lst_by Tryd.underlying24 Tryd.underlying5 (by kernel_rfl) (by first | exact q2 | exact q1) ht
      refine ⟨f (q % 32), ?_, hf _ (by omega)⟩
      rw [q3 (q % 32) (by omega), ef, List.getElem?_map, List.getElem?_range (by omega)]
      rfl
    by_cases h0 : l = 0
    · exact ⟨⟨some x, l, c, fun _ => 0⟩, hcs, .inr (.inl ⟨x, rfl, h0⟩), fun j hj => by have : j < 32 * l := hj; omega⟩
    · obtain ⟨z0, hz0, _⟩ := key 0 (by omega)
      obtain ⟨b, off, rfl⟩ : ∃ b off, x = ⟨b, off, none⟩ := by
        obtain ⟨b, off, spot⟩ := x
        have hs : spot = none := by
          have := World.cell?_spot hz0
          simpa [Addr.add] using this
        subst hs
        exact ⟨b, off, rfl⟩
      have key2 : ∀ q, q < 32 * l → ∃ z, w.cell? ⟨b, off + q, none⟩ = some (.int .u8 z) ∧ 0 ≤ z ∧ z < 256 := fun q hq => by
        obtain ⟨z, hz, hb⟩ := key q hq
        rw [addr_add, addr_add, show off + q / 32 * 32 + q % 32 = off + q by omega] at hz
        exact ⟨z, hz, hb⟩
      refine ⟨⟨some ⟨b, off, none⟩, l, c, fun q => match w.cell? ⟨b, off + q, none⟩ with | some (.int _ z) => z | _ => 0⟩, hcs, .inr (.inr ⟨b, off, rfl, hl, ?_, fun j hj => ?_⟩), fun j hj => ?_⟩
      · obtain ⟨z, hz, _⟩ := key2 0 (by omega)
        exact World.block_lt_of_cell? w _ hz
      · obtain ⟨z, hz, _⟩ := key2 j hj
        simp only [hz]
      · obtain ⟨z, hz, hb⟩ := key2 j hj
        simp only [hz]
        exact hb

set_option maxRecDepth 100000 in
set_option maxHeartbeats 2000000 in
theorem open_State {H : Type} {enc : TypeId × Value → H} {W w : World} {r : Reach} {base b0 : Nat} {held : Bool} {v : Value} {d : DataW H} {p : List MemPlace}
    (hv : Value.okWide Tryd.prog W r base 49 v) (h : DataW.Trod enc Tryd.prog w b0 (fun _ => true) held 49 v d p) : ∃ x : VState, v = .agg (cel (sState x)) ∧ OkState x ∧ InW w x ∧ NilW x ∧ (x.f11.n ≤ 9223372036854775807 ∧ x.f21.n ≤ 9223372036854775807 ∧ x.f12.n ≤ 9223372036854775807) := by
  obtain ⟨cs, rfl, hs, xs, n, hxl, hat⟩ := open_str Tryd.underlying49 hv h
  have hsz : cs.size = 1957 := hs.trans (by kernel_rfl)
  have hsl : cs.toList.length = 1957 := by rw [Array.length_toList]; exact hsz
  have hx : xs.length = 24 := hxl
  have h0 := hat 0 _ rfl
  rw [List.getElem?_eq_getElem (by omega)] at h0
  have c0 : Tryd.prog.cellsOf 22 = 1 := by kernel_rfl
  replace h0 : DataW.trod enc Tryd.prog w b0 (fun _ => true) held n 22 ((cs.toList.drop 0).take (Tryd.prog.cellsOf 22)) = some xs[0] := h0
  rw [c0] at h0
  obtain ⟨f0, e0, _, w0⟩ := DataW.trod_int Tryd.underlying22 h0
  have k0 := bounds_u64 w0
  have h1 := hat 1 _ rfl
  rw [List.getElem?_eq_getElem (by omega)] at h1
  have c1 : Tryd.prog.cellsOf 24 = 32 := by kernel_rfl
  replace h1 : DataW.trod enc Tryd.prog w b0 (fun _ => true) held n 24 ((cs.toList.drop 1).take (Tryd.prog.cellsOf 24)) = some xs[1] := h1
  rw [c1] at h1
  obtain ⟨f1, e1, k1⟩ := lst_by Tryd.underlying24 Tryd.underlying5 (by kernel_rfl) (by rw [List.length_take, List.length_drop, hsl]; rfl) h1
  have h2 := hat 2 _ rfl
  rw [List.getElem?_eq_getElem (by omega)] at h2
  have c2 : Tryd.prog.cellsOf 22 = 1 := by kernel_rfl
  replace h2 : DataW.trod enc Tryd.prog w b0 (fun _ => true) held n 22 ((cs.toList.drop 33).take (Tryd.prog.cellsOf 22)) = some xs[2] := h2
  rw [c2] at h2
  obtain ⟨f2, e2, _, w2⟩ := DataW.trod_int Tryd.underlying22 h2
  have k2 := bounds_u64 w2
  have h3 := hat 3 _ rfl
  rw [List.getElem?_eq_getElem (by omega)] at h3
  have c3 : Tryd.prog.cellsOf 28 = 9 := by kernel_rfl
  replace h3 : DataW.trod enc Tryd.prog w b0 (fun _ => true) held n 28 ((cs.toList.drop 34).take (Tryd.prog.cellsOf 28)) = some xs[3] := h3
  rw [c3] at h3
  obtain ⟨f3, e3, k3⟩ := oplS_Fork (by rw [List.length_take, List.length_drop, hsl]; rfl) h3
  have h4 := hat 4 _ rfl
  rw [List.getElem?_eq_getElem (by omega)] at h4
  have c4 : Tryd.prog.cellsOf 30 = 98 := by kernel_rfl
  replace h4 : DataW.trod enc Tryd.prog w b0 (fun _ => true) held n 30 ((cs.toList.drop 43).take (Tryd.prog.cellsOf 30)) = some xs[4] := h4
  rw [c4] at h4
  obtain ⟨f4, e4, k4⟩ := oplS_Header (by rw [List.length_take, List.length_drop, hsl]; rfl) h4
  have h5 := hat 5 _ rfl
  rw [List.getElem?_eq_getElem (by omega)] at h5
  have c5 : Tryd.prog.cellsOf 31 = 256 := by kernel_rfl
  replace h5 : DataW.trod enc Tryd.prog w b0 (fun _ => true) held n 31 ((cs.toList.drop 141).take (Tryd.prog.cellsOf 31)) = some xs[5] := h5
  rw [c5] at h5
  obtain ⟨f5, e5, k5⟩ := lst_r8 Tryd.underlying31 Tryd.underlying24 Tryd.underlying5 (by kernel_rfl) (by kernel_rfl) (by rw [List.length_take, List.length_drop, hsl]; rfl) h5
  have h6 := hat 6 _ rfl
  rw [List.getElem?_eq_getElem (by omega)] at h6
  have c6 : Tryd.prog.cellsOf 31 = 256 := by kernel_rfl
  replace h6 : DataW.trod enc Tryd.prog w b0 (fun _ => true) held n 31 ((cs.toList.drop 397).take (Tryd.prog.cellsOf 31)) = some xs[6] := h6
  rw [c6] at h6
  obtain ⟨f6, e6, k6⟩ := lst_r8 Tryd.underlying31 Tryd.underlying24 Tryd.underlying5 (by kernel_rfl) (by kernel_rfl) (by rw [List.length_take, List.length_drop, hsl]; rfl) h6
  have h7 := hat 7 _ rfl
  rw [List.getElem?_eq_getElem (by omega)] at h7
  have c7 : Tryd.prog.cellsOf 32 = 1 := by kernel_rfl
  replace h7 : DataW.trod enc Tryd.prog w b0 (fun _ => true) held n 32 ((cs.toList.drop 653).take (Tryd.prog.cellsOf 32)) = some xs[7] := h7
  rw [c7] at h7
  obtain ⟨f7, e7, i7, k7⟩ := lst_root h7
  have h8 := hat 8 _ rfl
  rw [List.getElem?_eq_getElem (by omega)] at h8
  have c8 : Tryd.prog.cellsOf 34 = 65 := by kernel_rfl
  replace h8 : DataW.trod enc Tryd.prog w b0 (fun _ => true) held n 34 ((cs.toList.drop 654).take (Tryd.prog.cellsOf 34)) = some xs[8] := h8
  rw [c8] at h8
  obtain ⟨f8, e8, k8⟩ := oplS_Eth1 (by rw [List.length_take, List.length_drop, hsl]; rfl) h8
  have h9 := hat 9 _ rfl
  rw [List.getElem?_eq_getElem (by omega)] at h9
  have c9 : Tryd.prog.cellsOf 35 = 1 := by kernel_rfl
  replace h9 : DataW.trod enc Tryd.prog w b0 (fun _ => true) held n 35 ((cs.toList.drop 719).take (Tryd.prog.cellsOf 35)) = some xs[9] := h9
  rw [c9] at h9
  obtain ⟨f9, e9, i9, n9, m9, k9⟩ := lst_Eth1 h9
  have h10 := hat 10 _ rfl
  rw [List.getElem?_eq_getElem (by omega)] at h10
  have c10 : Tryd.prog.cellsOf 22 = 1 := by kernel_rfl
  replace h10 : DataW.trod enc Tryd.prog w b0 (fun _ => true) held n 22 ((cs.toList.drop 720).take (Tryd.prog.cellsOf 22)) = some xs[10] := h10
  rw [c10] at h10
  obtain ⟨f10, e10, _, w10⟩ := DataW.trod_int Tryd.underlying22 h10
  have k10 := bounds_u64 w10
  have h11 := hat 11 _ rfl
  rw [List.getElem?_eq_getElem (by omega)] at h11
  have c11 : Tryd.prog.cellsOf 36 = 1 := by kernel_rfl
  replace h11 : DataW.trod enc Tryd.prog w b0 (fun _ => true) held n 36 ((cs.toList.drop 721).take (Tryd.prog.cellsOf 36)) = some xs[11] := h11
  rw [c11] at h11
  obtain ⟨f11, e11, i11, n11, m11, k11⟩ := lst_Validator h11
  have h12 := hat 12 _ rfl
  rw [List.getElem?_eq_getElem (by omega)] at h12
  have c12 : Tryd.prog.cellsOf 37 = 1 := by kernel_rfl
  replace h12 : DataW.trod enc Tryd.prog w b0 (fun _ => true) held n 37 ((cs.toList.drop 722).take (Tryd.prog.cellsOf 37)) = some xs[12] := h12
  rw [c12] at h12
  obtain ⟨f12, e12, i12, n12, m12, k12⟩ := lst_u64 h12
  have h13 := hat 13 _ rfl
  rw [List.getElem?_eq_getElem (by omega)] at h13
  have c13 : Tryd.prog.cellsOf 31 = 256 := by kernel_rfl
  replace h13 : DataW.trod enc Tryd.prog w b0 (fun _ => true) held n 31 ((cs.toList.drop 723).take (Tryd.prog.cellsOf 31)) = some xs[13] := h13
  rw [c13] at h13
  obtain ⟨f13, e13, k13⟩ := lst_r8 Tryd.underlying31 Tryd.underlying24 Tryd.underlying5 (by kernel_rfl) (by kernel_rfl) (by rw [List.length_take, List.length_drop, hsl]; rfl) h13
  have h14 := hat 14 _ rfl
  rw [List.getElem?_eq_getElem (by omega)] at h14
  have c14 : Tryd.prog.cellsOf 38 = 8 := by kernel_rfl
  replace h14 : DataW.trod enc Tryd.prog w b0 (fun _ => true) held n 38 ((cs.toList.drop 979).take (Tryd.prog.cellsOf 38)) = some xs[14] := h14
  rw [c14] at h14
  obtain ⟨f14, e14, k14⟩ := lst_n8 Tryd.underlying38 Tryd.underlying22 (by kernel_rfl) (by rw [List.length_take, List.length_drop, hsl]; rfl) h14
  have h15 := hat 15 _ rfl
  rw [List.getElem?_eq_getElem (by omega)] at h15
  have c15 : Tryd.prog.cellsOf 39 = 1 := by kernel_rfl
  replace h15 : DataW.trod enc Tryd.prog w b0 (fun _ => true) held n 39 ((cs.toList.drop 987).take (Tryd.prog.cellsOf 39)) = some xs[15] := h15
  rw [c15] at h15
  obtain ⟨f15, e15, i15, k15⟩ := lst_u8 h15
  have h16 := hat 16 _ rfl
  rw [List.getElem?_eq_getElem (by omega)] at h16
  have c16 : Tryd.prog.cellsOf 39 = 1 := by kernel_rfl
  replace h16 : DataW.trod enc Tryd.prog w b0 (fun _ => true) held n 39 ((cs.toList.drop 988).take (Tryd.prog.cellsOf 39)) = some xs[16] := h16
  rw [c16] at h16
  obtain ⟨f16, e16, i16, k16⟩ := lst_u8 h16
  have h17 := hat 17 _ rfl
  rw [List.getElem?_eq_getElem (by omega)] at h17
  have c17 : Tryd.prog.cellsOf 40 = 4 := by kernel_rfl
  replace h17 : DataW.trod enc Tryd.prog w b0 (fun _ => true) held n 40 ((cs.toList.drop 989).take (Tryd.prog.cellsOf 40)) = some xs[17] := h17
  rw [c17] at h17
  obtain ⟨f17, e17⟩ := lst_b4 Tryd.underlying40 Tryd.underlying4 (by kernel_rfl) (by rw [List.length_take, List.length_drop, hsl]; rfl) h17
  have h18 := hat 18 _ rfl
  rw [List.getElem?_eq_getElem (by omega)] at h18
  have c18 : Tryd.prog.cellsOf 42 = 33 := by kernel_rfl
  replace h18 : DataW.trod enc Tryd.prog w b0 (fun _ => true) held n 42 ((cs.toList.drop 993).take (Tryd.prog.cellsOf 42)) = some xs[18] := h18
  rw [c18] at h18
  obtain ⟨f18, e18, k18⟩ := oplS_Checkpoint (by rw [List.length_take, List.length_drop, hsl]; rfl) h18
  have h19 := hat 19 _ rfl
  rw [List.getElem?_eq_getElem (by omega)] at h19
  have c19 : Tryd.prog.cellsOf 42 = 33 := by kernel_rfl
  replace h19 : DataW.trod enc Tryd.prog w b0 (fun _ => true) held n 42 ((cs.toList.drop 1026).take (Tryd.prog.cellsOf 42)) = some xs[19] := h19
  rw [c19] at h19
  obtain ⟨f19, e19, k19⟩ := oplS_Checkpoint (by rw [List.length_take, List.length_drop, hsl]; rfl) h19
  have h20 := hat 20 _ rfl
  rw [List.getElem?_eq_getElem (by omega)] at h20
  have c20 : Tryd.prog.cellsOf 42 = 33 := by kernel_rfl
  replace h20 : DataW.trod enc Tryd.prog w b0 (fun _ => true) held n 42 ((cs.toList.drop 1059).take (Tryd.prog.cellsOf 42)) = some xs[20] := h20
  rw [c20] at h20
  obtain ⟨f20, e20, k20⟩ := oplS_Checkpoint (by rw [List.length_take, List.length_drop, hsl]; rfl) h20
  have h21 := hat 21 _ rfl
  rw [List.getElem?_eq_getElem (by omega)] at h21
  have c21 : Tryd.prog.cellsOf 37 = 1 := by kernel_rfl
  replace h21 : DataW.trod enc Tryd.prog w b0 (fun _ => true) held n 37 ((cs.toList.drop 1092).take (Tryd.prog.cellsOf 37)) = some xs[21] := h21
  rw [c21] at h21
  obtain ⟨f21, e21, i21, n21, m21, k21⟩ := lst_u64 h21
  have h22 := hat 22 _ rfl
  rw [List.getElem?_eq_getElem (by omega)] at h22
  have c22 : Tryd.prog.cellsOf 47 = 432 := by kernel_rfl
  replace h22 : DataW.trod enc Tryd.prog w b0 (fun _ => true) held n 47 ((cs.toList.drop 1093).take (Tryd.prog.cellsOf 47)) = some xs[22] := h22
  rw [c22] at h22
  obtain ⟨f22, e22, k22⟩ := oplS_Committee (by rw [List.length_take, List.length_drop, hsl]; rfl) h22
  have h23 := hat 23 _ rfl
  rw [List.getElem?_eq_getElem (by omega)] at h23
  have c23 : Tryd.prog.cellsOf 47 = 432 := by kernel_rfl
  replace h23 : DataW.trod enc Tryd.prog w b0 (fun _ => true) held n 47 ((cs.toList.drop 1525).take (Tryd.prog.cellsOf 47)) = some xs[23] := h23
  rw [c23] at h23
  obtain ⟨f23, e23, k23⟩ := oplS_Committee (by rw [List.length_take, List.length_drop, hsl]; rfl) h23
  have el : cs.toList.drop 0 = (cs.toList.drop 0).take 1 ++ ((cs.toList.drop 1).take 32 ++ ((cs.toList.drop 33).take 1 ++ ((cs.toList.drop 34).take 9 ++ ((cs.toList.drop 43).take 98 ++ ((cs.toList.drop 141).take 256 ++ ((cs.toList.drop 397).take 256 ++ ((cs.toList.drop 653).take 1 ++ ((cs.toList.drop 654).take 65 ++ ((cs.toList.drop 719).take 1 ++ ((cs.toList.drop 720).take 1 ++ ((cs.toList.drop 721).take 1 ++ ((cs.toList.drop 722).take 1 ++ ((cs.toList.drop 723).take 256 ++ ((cs.toList.drop 979).take 8 ++ ((cs.toList.drop 987).take 1 ++ ((cs.toList.drop 988).take 1 ++ ((cs.toList.drop 989).take 4 ++ ((cs.toList.drop 993).take 33 ++ ((cs.toList.drop 1026).take 33 ++ ((cs.toList.drop 1059).take 33 ++ ((cs.toList.drop 1092).take 1 ++ ((cs.toList.drop 1093).take 432 ++ ((cs.toList.drop 1525).take 432 ++ ([])))))))))))))))))))))))) := ((cut_list cs.toList 0 1).trans (congrArg _ ((cut_list cs.toList 1 32).trans (congrArg _ ((cut_list cs.toList 33 1).trans (congrArg _ ((cut_list cs.toList 34 9).trans (congrArg _ ((cut_list cs.toList 43 98).trans (congrArg _ ((cut_list cs.toList 141 256).trans (congrArg _ ((cut_list cs.toList 397 256).trans (congrArg _ ((cut_list cs.toList 653 1).trans (congrArg _ ((cut_list cs.toList 654 65).trans (congrArg _ ((cut_list cs.toList 719 1).trans (congrArg _ ((cut_list cs.toList 720 1).trans (congrArg _ ((cut_list cs.toList 721 1).trans (congrArg _ ((cut_list cs.toList 722 1).trans (congrArg _ ((cut_list cs.toList 723 256).trans (congrArg _ ((cut_list cs.toList 979 8).trans (congrArg _ ((cut_list cs.toList 987 1).trans (congrArg _ ((cut_list cs.toList 988 1).trans (congrArg _ ((cut_list cs.toList 989 4).trans (congrArg _ ((cut_list cs.toList 993 33).trans (congrArg _ ((cut_list cs.toList 1026 33).trans (congrArg _ ((cut_list cs.toList 1059 33).trans (congrArg _ ((cut_list cs.toList 1092 1).trans (congrArg _ ((cut_list cs.toList 1093 432).trans (congrArg _ ((cut_list cs.toList 1525 432).trans (congrArg _ (List.drop_eq_nil_of_le (by rw [hsl]; exact Nat.le_refl _))))))))))))))))))))))))))))))))))))))))))))))))))
  rw [e0, e1, e2, e3, e4, e5, e6, e7, e8, e9, e10, e11, e12, e13, e14, e15, e16, e17, e18, e19, e20, e21, e22, e23] at el
  refine ⟨⟨f0, f1, f2, f3, f4, f5, f6, f7, f8, f9, f10, f11, f12, f13, f14, f15, f16, f17, f18, f19, f20, f21, f22, f23⟩, ?_, ⟨⟨k0.1, Int.lt_of_le_of_lt k0.2 (by decide)⟩, k1, ⟨k2.1, Int.lt_of_le_of_lt k2.2 (by decide)⟩, k3, k4, k5, k6, k7, k8, k9, ⟨k10.1, Int.lt_of_le_of_lt k10.2 (by decide)⟩, k11, fun j _ => k12 j, k13, k14, fun j _ => k15 j, fun j _ => k16 j, k18, k19, k20, fun j _ => k21 j, k22, k23⟩, ⟨i7, i9, i11, i12, i15, i16, i21⟩, ⟨n9, n11, n12, n21⟩, m11, m21, m12⟩
  congr 1
  apply Array.ext'
  exact el.trans (by kernel_rfl)

end Go.Proofs.YtficlakgameglaaDoor
