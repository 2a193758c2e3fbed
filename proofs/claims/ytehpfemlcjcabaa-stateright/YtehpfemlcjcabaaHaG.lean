/-
  What the reference's Sum answers.
  What the reference's Two answers; bytes as a string.
-/
import Derived.Test.YtehpfemlcjcabaaHaE
import Derived.Test.YtehpfemlcjcabaaHaA
import Derived.Test.YtehpfemlcjcabaaHaD
import Derived.Deep.RegionWith
import Derived.Laws.BytesString
namespace Go.Proofs.Ytehpfemlcjcabaa

open Go.RowKit

set_option linter.unusedVariables false

attribute [local go_sem ↓] sv24_eq lv24_eq

end Go.Proofs.Ytehpfemlcjcabaa

namespace Go.Proofs.Ytehpfemlcjcabaa

open Go.RowKit

set_option linter.unusedVariables false

set_option linter.unusedSimpArgs false

attribute [local go_sem ↓] sv24_eq lv24_eq

/-- The string of the first len bytes. -/
def strF (m : Nat → Int) (len : Nat) : ByteArray := ((List.range len).map m).foldl (fun r n => r.push (UInt8.ofNat n.toNat)) ByteArray.empty

theorem conv_bys (w : World) (a : Option Addr) (len cap : Nat) (m : Nat → Int) (h : Bys w a len cap m) :
    (convert 39 9 (.slice a len cap)).run Try.prog w = .ok (.string (strF m len)) w := by
  rw [run_convert_bytes_string w _ _ _ _ _ _ Try.underlying39 Try.underlying5 Try.underlying9]
  have hs : ∀ (x : Addr), a = some x → (∀ j, j < len → w.cell? (x.add j) = some (.int .u8 (m j))) → (Conv.bytesToString (.slice a len cap)).run Try.prog w = .ok (.string (strF m len)) w := by
    rintro x rfl hc
    refine run_bytesToString w x len cap ((List.range len).map m) ?_
    have hh := run_loadCells_list (P := Try.prog) w x (((List.range len).map m).map (Value.int .u8)) (by
      intro j v hj
      rw [List.map_map] at hj
      have hlt := (List.getElem?_eq_some_iff.1 hj).1
      rw [List.length_map, List.length_range] at hlt
      rw [hc j hlt]
      rw [List.getElem?_map, List.getElem?_range hlt] at hj
      simpa using hj)
    rw [List.length_map, List.length_map, List.length_range] at hh
    exact hh
  rcases h with ⟨rfl, rfl, rfl⟩ | ⟨x, rfl, rfl⟩ | ⟨b, off, rfl, h2, h3, h4, h5⟩
  · simp [Conv.bytesToString, strF]
  · exact hs x rfl (fun j hj => by omega)
  · exact hs _ rfl (fun j hj => by rw [addr_add]; exact h5 j hj)

end Go.Proofs.Ytehpfemlcjcabaa
