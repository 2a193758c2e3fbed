/-
  A slice of integers opened, and that a nil one has no room.
-/
import Derived.Test.YtppjpodlnelomaaOpo
namespace Go.Proofs.Ytppjpodlnelomaa
open Go.RowKit Go.ChangeShapes Go.WideShapes Go.Deep

theorem open_i64n {H : Type} {enc : TypeId × Value → H} {W : World} {base : Nat} {held : Bool} {a : Option Addr} {len cap : Nat} {d : DataW H} {ps : List MemPlace} (h : DataW.Trod enc Try.prog W base (fun _ => true) held 23 (.slice a len cap) d ps) :
    ∃ m : Nat → Int, Nms .i64 W a len m ∧ ((∀ q, -9223372036854775808 ≤ m q ∧ m q ≤ 9223372036854775807) ∧ (a = none → cap = 0)) ∧ len ≤ cap ∧ Holds1 d cap := by
  have hn : a = none → cap = 0 := by
    obtain ⟨fuel, hf⟩ := h
    rcases open_ints Try.underlying23 Try.underlying3 (by kernel_rfl) hf with ⟨hcs, hx⟩ | ⟨x, l, c, zs, hcs, _⟩
    · simp [Value.cells] at hcs
      obtain ⟨rfl, rfl, rfl⟩ := hcs
      intro _
      rfl
    · simp [Value.cells] at hcs
      obtain ⟨rfl, rfl, rfl⟩ := hcs
      intro e
      cases e
  obtain ⟨m, h1, h2, h3⟩ := open_i64s h
  exact ⟨m, h1, ⟨h2, hn⟩, h3⟩

end Go.Proofs.Ytppjpodlnelomaa
