/-
  An argument that is an array of bytes, opened.
-/
import Derived.Test.YtjimdkpppgjokaaDoorShaL
import Derived.OpenShut
import Derived.WideShapes
namespace Go.Proofs.YtjimdkpppgjokaaDoor
open Go.RowKit
set_option linter.unusedVariables false

def byteOf (c : Array Value) (i : Nat) : Int := match c[i]? with
  | some (.int _ z) => z
  | _ => 0
theorem open_bytes {H : Type} {enc : TypeId × Value → H} {P : Program} {W w : World} {r : Reach} {base b0 : Nat} {sp : Nat → Bool} {held : Bool} {t e : TypeId} {n : Nat} {v : Value} {d : DataW H} {p : List MemPlace}
    (ht : P.underlying t = some (.array n e)) (he : P.underlying e = some (.int .u8)) (hce : P.cellsOf e = 1) (hct : P.cellsOf t = n)
    (hv : Value.okWide P W r base t v) (h : DataW.Trod enc P w b0 sp held t v d p) : ∃ f : Nat → Int, v = .agg (vs .u8 n f) ∧ ∀ j, j < n → 0 ≤ f j ∧ f j < 256 := by
  unfold Value.okWide at hv
  rw [ht] at hv
  obtain ⟨cs, rfl, hs, _⟩ := hv
  rw [hct] at hs
  obtain ⟨fuel, hf⟩ := h
  obtain ⟨xs, m, rfl, _, _, hxl, hat⟩ := DataW.trod_array ht hf
  have hcell : ∀ i, i < n → ∃ z, cs[i]? = some (.int .u8 z) ∧ (Lit.int .u8 z).wf = true := by
    intro i hi
    have ha := hat i hi
    rw [List.getElem?_eq_getElem (by omega)] at ha
    obtain ⟨z, hc, _, hwf⟩ := DataW.trod_int he ha
    refine ⟨z, ?_, hwf⟩
    have := congrArg (·[0]?) hc
    simpa [hce, List.getElem?_take, List.getElem?_drop, Value.cells] using this
  refine ⟨byteOf cs, ?_, fun j hj => ?_⟩
  · congr 1
    apply Array.ext_getElem?
    intro i
    by_cases hi : i < n
    · obtain ⟨z, hz, _⟩ := hcell i hi
      rw [vs_get _ _ _ _ hi, hz]
      unfold byteOf
      rw [hz]
    · rw [vs_get_none _ _ _ _ (by omega), Array.getElem?_eq_none (by omega)]
  · obtain ⟨z, hz, hwf⟩ := hcell j hj
    have := bounds_u8 hwf
    unfold byteOf
    rw [hz]
    show 0 ≤ z ∧ z < 256
    omega

end Go.Proofs.YtjimdkpppgjokaaDoor
