/-
  Arguments, opened: numbers; how many values they hold.
-/

import Derived.Test.YtmjdofegmelgbaaLkL
import Derived.Test.YtmjdofegmelgbaaRows
import Derived.ChangeSlices

import Derived.ChangeArms

import Derived.ChangeOld

import Derived.SizedLaws

namespace Go.Proofs.Ytmjdofegmelgbaa

open Go.RowKit Go.ChangeShapes Go.WideShapes

set_option linter.unusedVariables false

set_option linter.unusedSimpArgs false

/-- What an argument's datum holds. -/
def Holds1 {H : Type} (d : DataW H) (cap : Nat) : Prop := d = .nil ∧ cap = 0 ∨ ∃ el sp, d = .slice el sp ∧ el.length + sp.length = cap

/-- The form's own reach. -/
theorem holds_sized {H : Type} {ts : List TypeId} {ds : List (DataW H)} (h : (DataW.weightsEach Try.prog ts ds).all (· ≤ reachBytes) = true) {j : Nat} {t e : TypeId} {d : DataW H} {cap : Nat} (ht : ts[j]? = some t) (hd : ds[j]? = some d) (hu : Try.prog.underlying t = some (.slice e)) (hc : Holds1 d cap) :
    cap * Try.prog.bytesOf e ≤ 140737488351232 := by
  rcases hc with ⟨_, rfl⟩ | ⟨el, sp, rfl, rfl⟩
  · simp
  · exact sized_slice h ht hd hu

theorem spot_none {w : World} {x : Addr} {v : Value} (h : w.cell? (x.add 0) = some v) : ∃ b off, x = ⟨b, off, none⟩ := by
  obtain ⟨b, off, spot⟩ := x
  have hs : spot = none := by
    have := World.cell?_spot h
    simpa [Addr.add] using this
  subst hs
  exact ⟨b, off, rfl⟩

theorem open_u64s {H : Type} {enc : TypeId × Value → H} {W : World} {base : Nat} {held : Bool} {a : Option Addr} {len cap : Nat} {d : DataW H} {ps : List MemPlace} (h : DataW.Trod enc Try.prog W base (fun _ => true) held 37 (.slice a len cap) d ps) :
    ∃ m : Nat → Int, L64 W a len cap m ∧ (∀ q, 0 ≤ m q ∧ m q < 18446744073709551616) ∧ len ≤ cap ∧ Holds1 d cap := by
  obtain ⟨fuel, hf⟩ := h
  rcases open_ints Try.underlying37 Try.underlying22 (by kernel_rfl) hf with ⟨hcs, hx⟩ | ⟨x, l, c, zs, hcs, _, hl, hm, hz, hx, hcell, hwz⟩
  · simp [Value.cells] at hcs
    obtain ⟨rfl, rfl, rfl⟩ := hcs
    simp only [Prod.mk.injEq] at hx
    exact ⟨fun _ => 0, .inl ⟨rfl, rfl, rfl⟩, fun _ => (by decide : (0 : Int) ≤ 0 ∧ (0 : Int) < 18446744073709551616), Nat.le_refl _, .inl ⟨hx.1, rfl⟩⟩
  · simp [Value.cells] at hcs
    obtain ⟨rfl, rfl, rfl⟩ := hcs
    simp only [Prod.mk.injEq] at hx
    simp only [if_true] at hz
    have bd : ∀ q, 0 ≤ zs.getD q 0 ∧ zs.getD q 0 < 18446744073709551616 := by
      intro q
      by_cases hq : q < zs.length
      · rw [List.getD_eq_getElem?_getD, List.getElem?_eq_getElem hq, Option.getD_some]
        have := bounds_u64 (hwz _ (List.getElem_mem hq))
        omega
      · rw [List.getD_eq_getElem?_getD, List.getElem?_eq_none (by omega)]
        decide
    refine ⟨fun q => zs.getD q 0, ?_, bd, hl, .inr ⟨_, _, hx.1, by simp [lits]; omega⟩⟩
    by_cases h0 : len = 0
    · exact .inr (.inl ⟨x, rfl, h0⟩)
    · obtain ⟨b, off, rfl⟩ := spot_none (hcell 0 (by omega))
      refine .inr (.inr ⟨b, off, rfl, World.block_lt_of_cell? W _ (hcell 0 (by omega)), fun j hj => ?_⟩)
      have := hcell j (by omega)
      rw [addr_add] at this
      exact this

end Go.Proofs.Ytmjdofegmelgbaa
