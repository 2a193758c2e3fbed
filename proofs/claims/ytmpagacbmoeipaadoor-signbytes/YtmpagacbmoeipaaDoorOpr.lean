/-
  Arguments, opened: bytes, roots; how many values they hold.
-/
import Derived.Test.YtmpagacbmoeipaaDoorMQ
import Derived.ChangeSlices
import Derived.ChangeArms
import Derived.ChangeOld
import Derived.SizedLaws
namespace Go.Proofs.YtmpagacbmoeipaaDoor

open Go.RowKit Go.ChangeShapes Go.WideShapes

set_option linter.unusedVariables false

set_option linter.unusedSimpArgs false

/-- What an argument's datum holds. -/
def Holds1 {H : Type} (d : DataW H) (cap : Nat) : Prop := d = .nil ∧ cap = 0 ∨ ∃ el sp, d = .slice el sp ∧ el.length + sp.length = cap

/-- The form's own reach. -/
theorem holds_sized {H : Type} {ts : List TypeId} {ds : List (DataW H)} (h : (DataW.weightsEach Tryd.prog ts ds).all (· ≤ reachBytes) = true) {j : Nat} {t e : TypeId} {d : DataW H} {cap : Nat} (ht : ts[j]? = some t) (hd : ds[j]? = some d) (hu : Tryd.prog.underlying t = some (.slice e)) (hc : Holds1 d cap) :
    cap * Tryd.prog.bytesOf e ≤ 140737488351232 := by
  rcases hc with ⟨_, rfl⟩ | ⟨el, sp, rfl, rfl⟩
  · simp
  · exact sized_slice h ht hd hu

theorem spot_none {w : World} {x : Addr} {v : Value} (h : w.cell? (x.add 0) = some v) : ∃ b off, x = ⟨b, off, none⟩ := by
  obtain ⟨b, off, spot⟩ := x
  have hs : spot = none := by
    have := World.cell?_spot h
    simpa [Addr.add] using this
  subst hs
  exact ⟨b, off, rfl⟩

/-- One root of an argument. -/
theorem open_root1 {H : Type} {enc : TypeId × Value → H} {W : World} {base n : Nat} {held : Bool} {sp : Nat → Bool} {x : Addr} {y : DataW H × List MemPlace} (h : (W.cells? base x (Tryd.prog.cellsOf 24)).bind (DataW.trod enc Tryd.prog W base sp held n 24) = some y) :
    ∀ j, j < 32 → ∃ z, W.cell? (x.add j) = some (.int .u8 z) ∧ 0 ≤ z ∧ z < 256 := by
  have hce : Tryd.prog.cellsOf 5 = 1 := by kernel_rfl
  have hct : Tryd.prog.cellsOf 24 = 32 := by kernel_rfl
  rw [Option.bind_eq_some_iff] at h
  obtain ⟨cs, hcs, ht⟩ := h
  obtain ⟨xs, m, rfl, _, hl, hxl, hat⟩ := DataW.trod_array Tryd.underlying24 ht
  intro j hj
  have ha := hat j hj
  rw [List.getElem?_eq_getElem (by omega)] at ha
  obtain ⟨z, hc, _, hwf⟩ := DataW.trod_int Tryd.underlying5 ha
  have hcj : cs[j]? = some (.int .u8 z) := by
    have := congrArg (·[0]?) hc
    simpa [hce, List.getElem?_take, List.getElem?_drop, Value.cells] using this
  have hb := bounds_u8 hwf
  refine ⟨z, ?_, by omega, by omega⟩
  rw [(World.cells?_some hcs).2.2 j (by rw [hct]; exact hj)]
  exact hcj

theorem open_roots {H : Type} {enc : TypeId × Value → H} {W : World} {base : Nat} {held : Bool} {a : Option Addr} {len cap : Nat} {d : DataW H} {ps : List MemPlace} (h : DataW.Trod enc Tryd.prog W base (fun _ => true) held 32 (.slice a len cap) d ps) :
    ∃ f : Nat → Int, Rts W a len cap f ∧ ByB f (32 * len) ∧ len ≤ cap ∧ Holds1 d cap := by
  obtain ⟨fuel, hf⟩ := h
  have hct : Tryd.prog.cellsOf 24 = 32 := by kernel_rfl
  rcases DataW.trod_slice Tryd.underlying32 hf with ⟨hcs, hx⟩ | ⟨x, l, c, el, rest, n, rfl, hcs, hx, hbs, hl, hm, hel, hat, hsp, _⟩
  · simp [Value.cells] at hcs
    obtain ⟨rfl, rfl, rfl⟩ := hcs
    simp only [Prod.mk.injEq] at hx
    exact ⟨fun _ => 0, .inl ⟨rfl, rfl, rfl⟩, fun q hq => by omega, Nat.le_refl _, .inl ⟨hx.1, rfl⟩⟩
  · simp [Value.cells] at hcs
    obtain ⟨rfl, rfl, rfl⟩ := hcs
    simp only [Prod.mk.injEq] at hx
    have hr := (hsp rfl).1
    have hspot : 0 < len → ∃ b off, x = ⟨b, off, none⟩ := by
      intro h0
      have h1 := hat 0 h0
      rw [List.getElem?_eq_getElem (by omega)] at h1
      obtain ⟨z, hz, _⟩ := open_root1 h1 0 (by omega)
      obtain ⟨b, off, spot⟩ := x
      have hs : spot = none := by
        have := World.cell?_spot hz
        simpa [Addr.add] using this
      subst hs
      exact ⟨b, off, rfl⟩
    have key : ∀ q, q < 32 * len → ∃ z, W.cell? (x.add q) = some (.int .u8 z) ∧ 0 ≤ z ∧ z < 256 := by
      intro q hq
      have h1 := hat (q / 32) (by omega)
      rw [List.getElem?_eq_getElem (by omega)] at h1
      obtain ⟨z, hz, hb⟩ := open_root1 h1 (q % 32) (by omega)
      rw [hct] at hz
      refine ⟨z, ?_, hb⟩
      obtain ⟨b, off, rfl⟩ := hspot (by omega)
      rw [addr_add, addr_add] at hz
      rw [addr_add]
      rw [show off + q / 32 * 32 + q % 32 = off + q by omega] at hz
      exact hz
    refine ⟨fun q => match W.cell? (x.add q) with | some (.int _ z) => z | _ => 0, ?_, fun q hq => ?_, hl, .inr ⟨_, _, hx.1, by simp; omega⟩⟩
    · by_cases h0 : len = 0
      · exact .inr (.inl ⟨x, rfl, h0⟩)
      · obtain ⟨z0, hz0, _⟩ := key 0 (by omega)
        obtain ⟨b, off, rfl⟩ := spot_none hz0
        refine .inr (.inr ⟨b, off, rfl, hl, World.block_lt_of_cell? W _ hz0, fun j hj => ?_⟩)
        obtain ⟨z, hz, _⟩ := key j hj
        rw [← addr_add]
        simp only [hz]
    · obtain ⟨z, hz, hb⟩ := key q hq
      simp only [hz]
      exact hb

end Go.Proofs.YtmpagacbmoeipaaDoor
