/-
  A state without lists, read.
-/

import Derived.Test.YtmpagacbmoeipaaDoorStI
namespace Go.Proofs.YtmpagacbmoeipaaDoor

open Go.RowKit

set_option linter.unusedVariables false

set_option linter.unusedSimpArgs false

set_option maxRecDepth 20000

theorem putL_eq (C : Array Value) (o : Nat) (l : List Value) (h : o + l.length ≤ C.size) : putL C o l = (C.toList.take o ++ l ++ C.toList.drop (o + l.length)).toArray := by
  apply Array.ext'
  apply List.ext_getElem?
  intro i
  have hc : C.toList.length = C.size := Array.length_toList
  rw [Array.getElem?_toList, putL_get _ _ _ _ h]
  by_cases h1 : i < o
  · rw [if_neg (by omega), List.append_assoc, List.getElem?_append_left (by rw [List.length_take]; omega), List.getElem?_take_of_lt h1, Array.getElem?_toList]
  · rw [List.append_assoc, List.getElem?_append_right (by rw [List.length_take]; omega), List.length_take, Nat.min_eq_left (by omega)]
    by_cases h2 : i < o + l.length
    · rw [if_pos ⟨by omega, h2⟩, List.getElem?_append_left (by omega)]
    · rw [if_neg (by omega), List.getElem?_append_right (by omega), List.getElem?_drop, show o + l.length + (i - o - l.length) = i by omega, Array.getElem?_toList]

attribute [local go_sem ↓] lvState_eq svState_eq bdState_eq svFork_eq svHeader_eq svEth1_eq svCheckpoint_eq svCommittee_eq

end Go.Proofs.YtmpagacbmoeipaaDoor
