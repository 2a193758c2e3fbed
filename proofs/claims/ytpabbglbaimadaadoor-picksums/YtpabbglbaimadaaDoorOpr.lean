/-
  Arguments, opened: bytes, roots; how many values they hold.
-/
import Derived.Test.YtpabbglbaimadaaDoorMQ
import Derived.ChangeSlices
import Derived.ChangeArms
import Derived.ChangeOld
import Derived.SizedLaws
namespace Go.Proofs.YtpabbglbaimadaaDoor

open Go.RowKit Go.ChangeShapes Go.WideShapes

set_option linter.unusedVariables false

set_option linter.unusedSimpArgs false

/-- What an argument's datum holds. -/
def Holds1 {H : Type} (d : DataW H) (cap : Nat) : Prop := d = .nil ∧ cap = 0 ∨ ∃ el sp, d = .slice el sp ∧ el.length + sp.length = cap

/-- The form's own reach. -/
theorem holds_sized {H : Type} {ts : List TypeId} {ds : List (DataW H)} (h : (DataW.weightsEach Tryd.prog ts ds).all (· ≤ reachBytes) = true) {j : Nat} {t e : TypeId} {d : DataW H} {cap : Nat} (ht : ts[j]? = some t) (hd : ds[j]? = some d) (hu : Tryd.prog.underlying t = some (.slice e)) (hc : Holds1 d cap) :
    cap * Tryd.prog.bytesOf e ≤ 140737488351232 := by
  rcases hc with ⟨_, rfl⟩ | ⟨el, sp, rfl, rfl⟩
  · simp
  · exact sized_slice h ht hd hu

theorem spot_none {w : World} {x : Addr} {v : Value} (h : w.cell? (x.add 0) = some v) : ∃ b off, x = ⟨b, off, none⟩ := by
  obtain ⟨b, off, spot⟩ := x
  have hs : spot = none := by
    have := World.cell?_spot h
    simpa [Addr.add] using this
  subst hs
  exact ⟨b, off, rfl⟩

end Go.Proofs.YtpabbglbaimadaaDoor
