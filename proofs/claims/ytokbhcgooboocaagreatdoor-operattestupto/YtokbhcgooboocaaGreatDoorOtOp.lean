/-
  An argument that is an Indexed, opened.
-/
import Derived.Test.YtokbhcgooboocaaGreatDoorOpCp
import Derived.Test.YtokbhcgooboocaaGreatDoorTyDatap
import Derived.Test.YtokbhcgooboocaaGreatDoorOprp
import Derived.Test.YtokbhcgooboocaaGreatDoorOtAp
import Derived.Deep.Grids
namespace Go.Proofs.YtokbhcgooboocaaGreatDoor
open Go.RowKit Go.ChangeShapes Go.WideShapes
set_option linter.unusedVariables false
set_option linter.unusedSimpArgs false
set_option maxRecDepth 20000

theorem lst_u64s {H : Type} {enc : TypeId × Value → H} {w : World} {b0 fuel : Nat} {held : Bool} {cs : List Value} {y : DataW H × List MemPlace}
    (h : DataW.trod enc Tryz.prog w b0 (fun _ => true) held fuel 44 cs = some y) : ∃ (a : Option Addr) (n c : Nat) (zs : Nat → Int), cs = [.slice a n c] ∧ Z.Nms .u64 w a n zs ∧ ∀ j, 0 ≤ zs j ∧ zs j < 18446744073709551616 := by
  rcases open_ints Tryz.underlying44 Tryz.underlying23 (by kernel_rfl) h with ⟨hcs, hx⟩ | ⟨x, l, c, zs, hcs, _, hl, hm, hz, hx, hcell, hwz⟩
  · exact ⟨none, 0, 0, fun _ => 0, hcs, .inl rfl, fun _ => (by decide : (0 : Int) ≤ 0 ∧ (0 : Int) < 18446744073709551616)⟩
  · refine ⟨some x, l, c, fun j => zs.getD j 0, hcs, ?_, fun j => ?_⟩
    · by_cases h0 : l = 0
      · exact .inl h0
      · simp only [if_true] at hz
        obtain ⟨b, off, rfl⟩ := spot_none (hcell 0 (by omega))
        refine .inr ⟨b, off, rfl, World.block_lt_of_cell? w _ (hcell 0 (by omega)), fun j hj => ?_⟩
        have := hcell j (by omega)
        rw [addr_add] at this
        exact this
    · dsimp only
      by_cases hq : j < zs.length
      · rw [List.getD_eq_getElem?_getD, List.getElem?_eq_getElem hq, Option.getD_some]
        have := bounds_u64 (hwz _ (List.getElem_mem hq))
        omega
      · rw [List.getD_eq_getElem?_getD, List.getElem?_eq_none (by omega)]
        decide

set_option maxRecDepth 100000 in
theorem opl_Data {H : Type} {enc : TypeId × Value → H} {w : World} {b0 fuel : Nat} {sp : Nat → Bool} {held : Bool} {cs : List Value} {y : DataW H × List MemPlace}
    (hsl : cs.length = 100) (h : DataW.trod enc Tryz.prog w b0 sp held fuel 29 cs = some y) : ∃ x : VData, cs = celL (sData x) ∧ OkData x := by
  obtain ⟨xs, n, _, _, _, hxl, hat⟩ := DataW.trod_struct Tryz.underlying29 h
  have hx : xs.length = 5 := hxl
  have h0 := hat 0 _ rfl
  rw [List.getElem?_eq_getElem (by omega)] at h0
  have c0 : Tryz.prog.cellsOf 23 = 1 := by kernel_rfl
  replace h0 : DataW.trod enc Tryz.prog w b0 sp held n 23 ((cs.drop 0).take (Tryz.prog.cellsOf 23)) = some xs[0] := h0
  rw [c0] at h0
  obtain ⟨f0, e0, _, w0⟩ := DataW.trod_int Tryz.underlying23 h0
  have k0 := bounds_u64 w0
  have h1 := hat 1 _ rfl
  rw [List.getElem?_eq_getElem (by omega)] at h1
  have c1 : Tryz.prog.cellsOf 23 = 1 := by kernel_rfl
  replace h1 : DataW.trod enc Tryz.prog w b0 sp held n 23 ((cs.drop 1).take (Tryz.prog.cellsOf 23)) = some xs[1] := h1
  rw [c1] at h1
  obtain ⟨f1, e1, _, w1⟩ := DataW.trod_int Tryz.underlying23 h1
  have k1 := bounds_u64 w1
  have h2 := hat 2 _ rfl
  rw [List.getElem?_eq_getElem (by omega)] at h2
  have c2 : Tryz.prog.cellsOf 25 = 32 := by kernel_rfl
  replace h2 : DataW.trod enc Tryz.prog w b0 sp held n 25 ((cs.drop 2).take (Tryz.prog.cellsOf 25)) = some xs[2] := h2
  rw [c2] at h2
  obtain ⟨f2, e2, k2⟩ := lst_by Tryz.underlying25 Tryz.underlying5 (by kernel_rfl) (by rw [List.length_take, List.length_drop, hsl]; rfl) h2
  have h3 := hat 3 _ rfl
  rw [List.getElem?_eq_getElem (by omega)] at h3
  have c3 : Tryz.prog.cellsOf 27 = 33 := by kernel_rfl
  replace h3 : DataW.trod enc Tryz.prog w b0 sp held n 27 ((cs.drop 34).take (Tryz.prog.cellsOf 27)) = some xs[3] := h3
  rw [c3] at h3
  obtain ⟨f3, e3, k3⟩ := opl_Checkpoint (by rw [List.length_take, List.length_drop, hsl]; rfl) h3
  have h4 := hat 4 _ rfl
  rw [List.getElem?_eq_getElem (by omega)] at h4
  have c4 : Tryz.prog.cellsOf 27 = 33 := by kernel_rfl
  replace h4 : DataW.trod enc Tryz.prog w b0 sp held n 27 ((cs.drop 67).take (Tryz.prog.cellsOf 27)) = some xs[4] := h4
  rw [c4] at h4
  obtain ⟨f4, e4, k4⟩ := opl_Checkpoint (by rw [List.length_take, List.length_drop, hsl]; rfl) h4
  have el : cs.drop 0 = (cs.drop 0).take 1 ++ ((cs.drop 1).take 1 ++ ((cs.drop 2).take 32 ++ ((cs.drop 34).take 33 ++ ((cs.drop 67).take 33 ++ ([]))))) := ((cut_list cs 0 1).trans (congrArg _ ((cut_list cs 1 1).trans (congrArg _ ((cut_list cs 2 32).trans (congrArg _ ((cut_list cs 34 33).trans (congrArg _ ((cut_list cs 67 33).trans (congrArg _ (List.drop_eq_nil_of_le (by rw [hsl]; exact Nat.le_refl _))))))))))))
  rw [e0, e1, e2, e3, e4] at el
  refine ⟨⟨f0, f1, f2, f3, f4⟩, ?_, ⟨k0.1, Int.lt_of_le_of_lt k0.2 (by decide)⟩, ⟨k1.1, Int.lt_of_le_of_lt k1.2 (by decide)⟩, k2, k3, k4⟩
  exact el

end Go.Proofs.YtokbhcgooboocaaGreatDoor

namespace Go.Proofs.YtokbhcgooboocaaGreatDoor
open Go.RowKit Go.ChangeShapes Go.WideShapes Go.Deep
set_option linter.unusedVariables false
set_option linter.unusedSimpArgs false
set_option maxRecDepth 20000

theorem lst_bools {H : Type} {enc : TypeId × Value → H} {w : World} {b0 fuel : Nat} {held : Bool} {cs : List Value} {y : DataW H × List MemPlace}
    (h : DataW.trod enc Tryz.prog w b0 (fun _ => true) held fuel 22 cs = some y) : ∃ (a : Option Addr) (n c : Nat) (zs : Nat → Bool), cs = [.slice a n c] ∧ Z.Bls w a n c zs := by
  rcases open_bools Tryz.underlying22 Tryz.underlying4 (by kernel_rfl) h with ⟨hcs, hx⟩ | ⟨x, l, c, B, hcs, _, hl, hm, hx, hcell⟩
  · exact ⟨none, 0, 0, fun _ => false, hcs, .inl ⟨rfl, rfl, rfl⟩⟩
  · refine ⟨some x, l, c, B, hcs, ?_⟩
    by_cases h0 : l = 0
    · exact .inr (.inl ⟨x, rfl, h0⟩)
    · obtain ⟨b, off, rfl⟩ := spot_none (hcell 0 (by omega))
      unfold maxLen at hm
      refine .inr (.inr ⟨b, off, rfl, hl, by omega, World.block_lt_of_cell? w _ (hcell 0 (by omega)), fun j hj => ?_⟩)
      have := hcell j (by omega)
      rw [addr_add] at this
      exact this

set_option maxRecDepth 100000 in
theorem open_Attest {H : Type} {enc : TypeId × Value → H} {W w : World} {r : Reach} {base b0 : Nat} {held : Bool} {v : Value} {d : DataW H} {p : List MemPlace}
    (hv : Value.okWide Tryz.prog W r base 33 v) (h : DataW.Trod enc Tryz.prog w b0 (fun _ => true) held 33 v d p) : ∃ x : VAttest, v = .agg (cel (sAttest x)) ∧ OkAttest x ∧ Z.Bls w x.a x.n x.c x.zs := by
  obtain ⟨cs, rfl, hs, xs, n, hxl, hat⟩ := open_str Tryz.underlying33 hv h
  have hsz : cs.size = 197 := hs.trans (by kernel_rfl)
  have hsl : cs.toList.length = 197 := by rw [Array.length_toList]; exact hsz
  have hx : xs.length = 3 := hxl
  have h0 := hat 0 _ rfl
  rw [List.getElem?_eq_getElem (by omega)] at h0
  have c0 : Tryz.prog.cellsOf 22 = 1 := by kernel_rfl
  replace h0 : DataW.trod enc Tryz.prog w b0 (fun _ => true) held n 22 ((cs.toList.drop 0).take (Tryz.prog.cellsOf 22)) = some xs[0] := h0
  rw [c0] at h0
  obtain ⟨fa, fn, fc, f0, e0, w0⟩ := lst_bools h0
  have h1 := hat 1 _ rfl
  rw [List.getElem?_eq_getElem (by omega)] at h1
  have c1 : Tryz.prog.cellsOf 29 = 100 := by kernel_rfl
  replace h1 : DataW.trod enc Tryz.prog w b0 (fun _ => true) held n 29 ((cs.toList.drop 1).take (Tryz.prog.cellsOf 29)) = some xs[1] := h1
  rw [c1] at h1
  obtain ⟨f1, e1, k1⟩ := opl_Data (by rw [List.length_take, List.length_drop, hsl]; rfl) h1
  have h2 := hat 2 _ rfl
  rw [List.getElem?_eq_getElem (by omega)] at h2
  have c2 : Tryz.prog.cellsOf 31 = 96 := by kernel_rfl
  replace h2 : DataW.trod enc Tryz.prog w b0 (fun _ => true) held n 31 ((cs.toList.drop 101).take (Tryz.prog.cellsOf 31)) = some xs[2] := h2
  rw [c2] at h2
  obtain ⟨f2, e2, k2⟩ := lst_by Tryz.underlying31 Tryz.underlying5 (by kernel_rfl) (by rw [List.length_take, List.length_drop, hsl]; rfl) h2
  have el : cs.toList.drop 0 = (cs.toList.drop 0).take 1 ++ ((cs.toList.drop 1).take 100 ++ ((cs.toList.drop 101).take 96 ++ ([]))) := ((cut_list cs.toList 0 1).trans (congrArg _ ((cut_list cs.toList 1 100).trans (congrArg _ ((cut_list cs.toList 101 96).trans (congrArg _ (List.drop_eq_nil_of_le (by rw [hsl]; exact Nat.le_refl _))))))))
  rw [e0, e1, e2] at el
  refine ⟨⟨fa, fn, fc, f0, f1, f2⟩, ?_, ⟨k1, k2⟩, w0⟩
  congr 1
  apply Array.ext'
  exact el

end Go.Proofs.YtokbhcgooboocaaGreatDoor
