/-
  Keys as an argument, opened.
-/

import Derived.Test.YtmpagacbmoeipaaDoorPkG
import Derived.Test.YtmpagacbmoeipaaDoorOpr
import Derived.ChangeSlices

import Derived.ChangeArms

import Derived.ChangeOld

import Derived.SizedLaws

namespace Go.Proofs.YtmpagacbmoeipaaDoor

open Go.RowKit Go.ChangeShapes Go.WideShapes

set_option linter.unusedVariables false

set_option linter.unusedSimpArgs false

/-- One key of an argument. -/
theorem open_key1 {H : Type} {enc : TypeId × Value → H} {W : World} {base n : Nat} {held : Bool} {sp : Nat → Bool} {x : Addr} {y : DataW H × List MemPlace} (h : (W.cells? base x (Tryd.prog.cellsOf 44)).bind (DataW.trod enc Tryd.prog W base sp held n 44) = some y) :
    ∀ j, j < 48 → ∃ z, W.cell? (x.add j) = some (.int .u8 z) ∧ 0 ≤ z ∧ z < 256 := by
  have hce : Tryd.prog.cellsOf 5 = 1 := by kernel_rfl
  have hct : Tryd.prog.cellsOf 44 = 48 := by kernel_rfl
  rw [Option.bind_eq_some_iff] at h
  obtain ⟨cs, hcs, ht⟩ := h
  obtain ⟨xs, m, rfl, _, hl, hxl, hat⟩ := DataW.trod_array Tryd.underlying44 ht
  intro j hj
  have ha := hat j hj
  rw [List.getElem?_eq_getElem (by omega)] at ha
  obtain ⟨z, hc, _, hwf⟩ := DataW.trod_int Tryd.underlying5 ha
  have hcj : cs[j]? = some (.int .u8 z) := by
    have := congrArg (·[0]?) hc
    simpa [hce, List.getElem?_take, List.getElem?_drop, Value.cells] using this
  have hb := bounds_u8 hwf
  refine ⟨z, ?_, by omega, by omega⟩
  rw [(World.cells?_some hcs).2.2 j (by rw [hct]; exact hj)]
  exact hcj

theorem open_keys {H : Type} {enc : TypeId × Value → H} {W : World} {base : Nat} {held : Bool} {a : Option Addr} {len cap : Nat} {d : DataW H} {ps : List MemPlace} (h : DataW.Trod enc Tryd.prog W base (fun _ => true) held 62 (.slice a len cap) d ps) :
    ∃ f : Nat → Int, Kys W a len cap f ∧ ByB f (48 * len) ∧ len ≤ cap ∧ Holds1 d cap := by
  obtain ⟨fuel, hf⟩ := h
  have hct : Tryd.prog.cellsOf 44 = 48 := by kernel_rfl
  rcases DataW.trod_slice Tryd.underlying62 hf with ⟨hcs, hx⟩ | ⟨x, l, c, el, rest, n, rfl, hcs, hx, hbs, hl, hm, hel, hat, hsp, _⟩
  · simp [Value.cells] at hcs
    obtain ⟨rfl, rfl, rfl⟩ := hcs
    simp only [Prod.mk.injEq] at hx
    exact ⟨fun _ => 0, .inl ⟨rfl, rfl, rfl⟩, fun q hq => by omega, Nat.le_refl _, .inl ⟨hx.1, rfl⟩⟩
  · simp [Value.cells] at hcs
    obtain ⟨rfl, rfl, rfl⟩ := hcs
    simp only [Prod.mk.injEq] at hx
    have hr := (hsp rfl).1
    have hspot : 0 < len → ∃ b off, x = ⟨b, off, none⟩ := by
      intro h0
      have h1 := hat 0 h0
      rw [List.getElem?_eq_getElem (by omega)] at h1
      obtain ⟨z, hz, _⟩ := open_key1 h1 0 (by omega)
      obtain ⟨b, off, spot⟩ := x
      have hs : spot = none := by
        have := World.cell?_spot hz
        simpa [Addr.add] using this
      subst hs
      exact ⟨b, off, rfl⟩
    have key : ∀ q, q < 48 * len → ∃ z, W.cell? (x.add q) = some (.int .u8 z) ∧ 0 ≤ z ∧ z < 256 := by
      intro q hq
      have h1 := hat (q / 48) (by omega)
      rw [List.getElem?_eq_getElem (by omega)] at h1
      obtain ⟨z, hz, hb⟩ := open_key1 h1 (q % 48) (by omega)
      rw [hct] at hz
      refine ⟨z, ?_, hb⟩
      obtain ⟨b, off, rfl⟩ := hspot (by omega)
      rw [addr_add, addr_add] at hz
      rw [addr_add]
      rw [show off + q / 48 * 48 + q % 48 = off + q by omega] at hz
      exact hz
    refine ⟨fun q => match W.cell? (x.add q) with | some (.int _ z) => z | _ => 0, ?_, fun q hq => ?_, hl, .inr ⟨_, _, hx.1, by simp; omega⟩⟩
    · by_cases h0 : len = 0
      · exact .inr (.inl ⟨x, rfl, h0⟩)
      · obtain ⟨z0, hz0, _⟩ := key 0 (by omega)
        obtain ⟨b, off, rfl⟩ := spot_none hz0
        refine .inr (.inr ⟨b, off, rfl, hl, World.block_lt_of_cell? W _ hz0, fun j hj => ?_⟩)
        obtain ⟨z, hz, _⟩ := key j hj
        rw [← addr_add]
        simp only [hz]
    · obtain ⟨z, hz, hb⟩ := key q hq
      simp only [hz]
      exact hb

end Go.Proofs.YtmpagacbmoeipaaDoor
