/-
  An argument that is a Deposit, opened.
-/
import Derived.Test.YtokbhcgooboocaaDoorOdAp
import Derived.Test.YtokbhcgooboocaaDoorTyDepositDatap
import Derived.Test.YtokbhcgooboocaaDoorOpr
namespace Go.Proofs.YtokbhcgooboocaaDoor
open Go.RowKit
set_option linter.unusedVariables false
set_option linter.unusedSimpArgs false
set_option maxRecDepth 20000

theorem lst_rs {H : Type} {enc : TypeId × Value → H} {P : Program} {w : World} {b0 fuel : Nat} {sp : Nat → Bool} {held : Bool} {t e e8 : TypeId} {cs : List Value} {x : DataW H × List MemPlace}
    (ht : P.underlying t = some (.array 7 e)) (hk : P.underlying e = some (.array 32 e8)) (he : P.underlying e8 = some (.int .u8)) (hck : P.cellsOf e = 32) (hce : P.cellsOf e8 = 1) (hl : cs.length = 224) (h : DataW.trod enc P w b0 sp held fuel t cs = some x) :
    ∃ f : Nat → Int, cs = (List.range 224).map (fun j => Value.int .u8 (f j)) ∧ ∀ j, j < 224 → 0 ≤ f j ∧ f j < 256 := by
  obtain ⟨xs, m, rfl, _, _, hxl, hat⟩ := DataW.trod_array ht h
  have hcell : ∀ q, q < 224 → ∃ z : Int, cs[q]? = some (.int .u8 z) ∧ 0 ≤ z ∧ z < 256 := by
    intro q hq
    have ha := hat (q / 32) (by omega)
    rw [List.getElem?_eq_getElem (by omega), hck] at ha
    obtain ⟨g, hc, hb⟩ := lst_by hk he hce (by rw [List.length_take, List.length_drop, hl]; omega) ha
    refine ⟨g (q % 32), ?_, hb _ (by omega)⟩
    have := congrArg (·[q % 32]?) hc
    simp only [List.getElem?_take, List.getElem?_drop] at this
    rw [if_pos (by omega), List.getElem?_map, List.getElem?_range (by omega)] at this
    exact (congrArg (fun i => cs[i]?) (show q = q / 32 * 32 + q % 32 by omega)).trans this
  refine ⟨byteOf cs.toArray, ?_, fun j hj => ?_⟩
  · apply List.ext_getElem?
    intro i
    rw [List.getElem?_map]
    by_cases hi : i < 224
    · obtain ⟨z, hz, _⟩ := hcell i hi
      rw [List.getElem?_range hi, hz]
      show some _ = some (Value.int .u8 (byteOf cs.toArray i))
      unfold byteOf
      rw [List.getElem?_toArray, hz]
    · rw [List.getElem?_eq_none (by omega), List.getElem?_eq_none (by simpa using hi)]
      rfl
  · obtain ⟨z, hz, hb⟩ := hcell j hj
    unfold byteOf
    rw [List.getElem?_toArray, hz]
    exact hb

theorem opl_Proof {H : Type} {enc : TypeId × Value → H} {w : World} {b0 fuel : Nat} {sp : Nat → Bool} {held : Bool} {cs : List Value} {y : DataW H × List MemPlace}
    (hsl : cs.length = 224) (h : DataW.trod enc Tryd.prog w b0 sp held fuel 55 cs = some y) : ∃ x : VProof, cs = celL (sProof x) ∧ OkProof x := by
  obtain ⟨f0, e0, k0⟩ := lst_rs Tryd.underlying55 Tryd.underlying25 Tryd.underlying5 (by kernel_rfl) (by kernel_rfl) hsl h
  refine ⟨⟨f0⟩, ?_, k0⟩
  rw [e0]
  show _ = (List.range 224).map _ ++ []
  rw [List.append_nil]
  rfl

set_option maxRecDepth 100000 in
theorem opl_DepositData {H : Type} {enc : TypeId × Value → H} {w : World} {b0 fuel : Nat} {sp : Nat → Bool} {held : Bool} {cs : List Value} {y : DataW H × List MemPlace}
    (hsl : cs.length = 177) (h : DataW.trod enc Tryd.prog w b0 sp held fuel 59 cs = some y) : ∃ x : VDepositData, cs = celL (sDepositData x) ∧ OkDepositData x := by
  obtain ⟨xs, n, _, _, _, hxl, hat⟩ := DataW.trod_struct Tryd.underlying59 h
  have hx : xs.length = 4 := hxl
  have h0 := hat 0 _ rfl
  rw [List.getElem?_eq_getElem (by omega)] at h0
  have c0 : Tryd.prog.cellsOf 57 = 48 := by kernel_rfl
  replace h0 : DataW.trod enc Tryd.prog w b0 sp held n 57 ((cs.drop 0).take (Tryd.prog.cellsOf 57)) = some xs[0] := h0
  rw [c0] at h0
  obtain ⟨f0, e0, k0⟩ := lst_by Tryd.underlying57 Tryd.underlying5 (by kernel_rfl) (by rw [List.length_take, List.length_drop, hsl]; rfl) h0
  have h1 := hat 1 _ rfl
  rw [List.getElem?_eq_getElem (by omega)] at h1
  have c1 : Tryd.prog.cellsOf 25 = 32 := by kernel_rfl
  replace h1 : DataW.trod enc Tryd.prog w b0 sp held n 25 ((cs.drop 48).take (Tryd.prog.cellsOf 25)) = some xs[1] := h1
  rw [c1] at h1
  obtain ⟨f1, e1, k1⟩ := lst_by Tryd.underlying25 Tryd.underlying5 (by kernel_rfl) (by rw [List.length_take, List.length_drop, hsl]; rfl) h1
  have h2 := hat 2 _ rfl
  rw [List.getElem?_eq_getElem (by omega)] at h2
  have c2 : Tryd.prog.cellsOf 23 = 1 := by kernel_rfl
  replace h2 : DataW.trod enc Tryd.prog w b0 sp held n 23 ((cs.drop 80).take (Tryd.prog.cellsOf 23)) = some xs[2] := h2
  rw [c2] at h2
  obtain ⟨f2, e2, _, w2⟩ := DataW.trod_int Tryd.underlying23 h2
  have k2 := bounds_u64 w2
  have h3 := hat 3 _ rfl
  rw [List.getElem?_eq_getElem (by omega)] at h3
  have c3 : Tryd.prog.cellsOf 31 = 96 := by kernel_rfl
  replace h3 : DataW.trod enc Tryd.prog w b0 sp held n 31 ((cs.drop 81).take (Tryd.prog.cellsOf 31)) = some xs[3] := h3
  rw [c3] at h3
  obtain ⟨f3, e3, k3⟩ := lst_by Tryd.underlying31 Tryd.underlying5 (by kernel_rfl) (by rw [List.length_take, List.length_drop, hsl]; rfl) h3
  have el : cs.drop 0 = (cs.drop 0).take 48 ++ ((cs.drop 48).take 32 ++ ((cs.drop 80).take 1 ++ ((cs.drop 81).take 96 ++ ([])))) := ((cut_list cs 0 48).trans (congrArg _ ((cut_list cs 48 32).trans (congrArg _ ((cut_list cs 80 1).trans (congrArg _ ((cut_list cs 81 96).trans (congrArg _ (List.drop_eq_nil_of_le (by rw [hsl]; exact Nat.le_refl _))))))))))
  rw [e0, e1, e2, e3] at el
  refine ⟨⟨f0, f1, f2, f3⟩, ?_, k0, k1, ⟨k2.1, Int.lt_of_le_of_lt k2.2 (by decide)⟩, k3⟩
  exact el

set_option maxRecDepth 100000 in
theorem open_Deposit {H : Type} {enc : TypeId × Value → H} {W w : World} {r : Reach} {base b0 : Nat} {sp : Nat → Bool} {held : Bool} {v : Value} {d : DataW H} {p : List MemPlace}
    (hv : Value.okWide Tryd.prog W r base 61 v) (h : DataW.Trod enc Tryd.prog w b0 sp held 61 v d p) : ∃ x : VDeposit, v = .agg (cel (sDeposit x)) ∧ OkDeposit x := by
  obtain ⟨cs, rfl, hs, xs, n, hxl, hat⟩ := open_str Tryd.underlying61 hv h
  have hsz : cs.size = 401 := hs.trans (by kernel_rfl)
  have hsl : cs.toList.length = 401 := by rw [Array.length_toList]; exact hsz
  have hx : xs.length = 2 := hxl
  have h0 := hat 0 _ rfl
  rw [List.getElem?_eq_getElem (by omega)] at h0
  have c0 : Tryd.prog.cellsOf 55 = 224 := by kernel_rfl
  replace h0 : DataW.trod enc Tryd.prog w b0 sp held n 55 ((cs.toList.drop 0).take (Tryd.prog.cellsOf 55)) = some xs[0] := h0
  rw [c0] at h0
  obtain ⟨f0, e0, k0⟩ := opl_Proof (by rw [List.length_take, List.length_drop, hsl]; rfl) h0
  have h1 := hat 1 _ rfl
  rw [List.getElem?_eq_getElem (by omega)] at h1
  have c1 : Tryd.prog.cellsOf 59 = 177 := by kernel_rfl
  replace h1 : DataW.trod enc Tryd.prog w b0 sp held n 59 ((cs.toList.drop 224).take (Tryd.prog.cellsOf 59)) = some xs[1] := h1
  rw [c1] at h1
  obtain ⟨f1, e1, k1⟩ := opl_DepositData (by rw [List.length_take, List.length_drop, hsl]; rfl) h1
  have el : cs.toList.drop 0 = (cs.toList.drop 0).take 224 ++ ((cs.toList.drop 224).take 177 ++ ([])) := ((cut_list cs.toList 0 224).trans (congrArg _ ((cut_list cs.toList 224 177).trans (congrArg _ (List.drop_eq_nil_of_le (by rw [hsl]; exact Nat.le_refl _))))))
  rw [e0, e1] at el
  refine ⟨⟨f0, f1⟩, ?_, k0, k1⟩
  congr 1
  apply Array.ext'
  exact el

end Go.Proofs.YtokbhcgooboocaaDoor
