/-
  Arguments, opened: bits; how many values they hold.
-/

import Derived.Test.YtenhgoclfljjlaaDoorSR
import Derived.Test.YtenhgoclfljjlaaDoorLkL
import Derived.Test.YtenhgoclfljjlaaDoorRows
import Derived.ChangeSlices

import Derived.Deep.Grids

import Derived.ChangeArms

import Derived.ChangeOld

import Derived.SizedLaws

namespace Go.Proofs.YtenhgoclfljjlaaDoor

open Go.RowKit Go.ChangeShapes Go.WideShapes Go.Deep

set_option linter.unusedVariables false

set_option linter.unusedSimpArgs false

/-- What an argument's datum holds. -/
def Holds1 {H : Type} (d : DataW H) (cap : Nat) : Prop := d = .nil ∧ cap = 0 ∨ ∃ el sp, d = .slice el sp ∧ el.length + sp.length = cap

/-- The form's own reach. -/
theorem holds_sized {H : Type} {ts : List TypeId} {ds : List (DataW H)} (h : (DataW.weightsEach Tryd.prog ts ds).all (· ≤ reachBytes) = true) {j : Nat} {t e : TypeId} {d : DataW H} {cap : Nat} (ht : ts[j]? = some t) (hd : ds[j]? = some d) (hu : Tryd.prog.underlying t = some (.slice e)) (hc : Holds1 d cap) :
    cap * Tryd.prog.bytesOf e ≤ 140737488351232 := by
  rcases hc with ⟨_, rfl⟩ | ⟨el, sp, rfl, rfl⟩
  · simp
  · exact sized_slice h ht hd hu

theorem spot_none {w : World} {x : Addr} {v : Value} (h : w.cell? (x.add 0) = some v) : ∃ b off, x = ⟨b, off, none⟩ := by
  obtain ⟨b, off, spot⟩ := x
  have hs : spot = none := by
    have := World.cell?_spot h
    simpa [Addr.add] using this
  subst hs
  exact ⟨b, off, rfl⟩

theorem open_blsZ {H : Type} {enc : TypeId × Value → H} {W : World} {base : Nat} {held : Bool} {a : Option Addr} {len cap : Nat} {d : DataW H} {ps : List MemPlace} (h : DataW.Trod enc Tryd.prog W base (fun _ => true) held 50 (.slice a len cap) d ps) :
    ∃ f, Z.Bls W a len cap f ∧ len ≤ cap ∧ Holds1 d cap := by
  obtain ⟨fuel, hf⟩ := h
  rcases open_bools Tryd.underlying50 Tryd.underlying4 (by kernel_rfl) hf with ⟨hcs, hx⟩ | ⟨x, l, c, B, hcs, _, hl, hm, hx, hcell⟩
  · simp [Value.cells] at hcs
    obtain ⟨rfl, rfl, rfl⟩ := hcs
    simp only [Prod.mk.injEq] at hx
    exact ⟨fun _ => false, .inl ⟨rfl, rfl, rfl⟩, Nat.le_refl _, .inl ⟨hx.1, rfl⟩⟩
  · simp [Value.cells] at hcs
    obtain ⟨rfl, rfl, rfl⟩ := hcs
    simp only [Prod.mk.injEq] at hx
    refine ⟨B, ?_, hl, .inr ⟨_, _, hx.1, by simp; omega⟩⟩
    by_cases h0 : len = 0
    · exact .inr (.inl ⟨x, rfl, h0⟩)
    · obtain ⟨b, off, rfl⟩ := spot_none (hcell 0 (by omega))
      unfold maxLen at hm
      refine .inr (.inr ⟨b, off, rfl, hl, by omega, World.block_lt_of_cell? W _ (hcell 0 (by omega)), fun j hj => ?_⟩)
      have := hcell j (by omega)
      rw [addr_add] at this
      exact this

end Go.Proofs.YtenhgoclfljjlaaDoor
