/-
  What the small functions of package word, and the document's like of them, answer: Add, Sub, Less; bits.Add64 and bits.Mul64; Mul. For all numbers of 64 bits.
-/

import Derived.Test.YtmjdofegmelgbaaDoorRows
import Derived.Test.YtmjdofegmelgbaaDoorShelf
import Derived.WalkKit

import Derived.WalkSpells

import Derived.WalkLawsBesides

import Derived.Laws.Externs

import Derived.OpenShut

namespace Go.Proofs.YtmjdofegmelgbaaDoor

open Go.RowKit

theorem hid {p : Prop} (h : p) : Hid p := h

theorem ret1 {k : IntKind} {a b : Int} (h : a = b) : Ending.returned (.int k a) = .returned (.int k b) := by rw [h]

end Go.Proofs.YtmjdofegmelgbaaDoor
