/-
  A state without lists, read.
-/

import Derived.Test.YtpabbglbaimadaaDoorStI
namespace Go.Proofs.YtpabbglbaimadaaDoor

open Go.RowKit

set_option linter.unusedVariables false

set_option linter.unusedSimpArgs false

set_option maxRecDepth 20000

theorem putL_eq (C : Array Value) (o : Nat) (l : List Value) (h : o + l.length ≤ C.size) : putL C o l = (C.toList.take o ++ l ++ C.toList.drop (o + l.length)).toArray := by
  apply Array.ext'
  apply List.ext_getElem?
  intro i
  have hc : C.toList.length = C.size := Array.length_toList
  rw [Array.getElem?_toList, putL_get _ _ _ _ h]
  by_cases h1 : i < o
  · rw [if_neg (by omega), List.append_assoc, List.getElem?_append_left (by rw [List.length_take]; omega), List.getElem?_take_of_lt h1, Array.getElem?_toList]
  · rw [List.append_assoc, List.getElem?_append_right (by rw [List.length_take]; omega), List.length_take, Nat.min_eq_left (by omega)]
    by_cases h2 : i < o + l.length
    · rw [if_pos ⟨by omega, h2⟩, List.getElem?_append_left (by omega)]
    · rw [if_neg (by omega), List.getElem?_append_right (by omega), List.getElem?_drop, show o + l.length + (i - o - l.length) = i by omega, Array.getElem?_toList]

theorem RI.put {w X : World} {r y : Nat} {x x' : VState} (h : RI w r y x X) (hr : r ≠ y) (hy : w.heap.size ≤ y) (l1 m m' l2 : List Seg) (e1 : sState x = l1 ++ m ++ l2) (e2 : sState x' = l1 ++ m' ++ l2) (hm : slen m' = slen m) (o : Nat) (ho : slen l1 = o) : RI w r y x' (X.setCells y o (celL m')) := by
  refine h.kept hr hy (setCells_kept _ _ (Kept.refl y X)) ((setCells_row _ _ h.2.2).trans (congrArg (fun c => some (Obj.cells c 49)) ?_))
  have hs : slen (l1 ++ m ++ l2) = slen l1 + slen m + slen l2 := by
    rw [← celL_len, celL_app, celL_app, List.length_append, List.length_append, celL_len, celL_len, celL_len]
  rw [e1, e2, putL_eq _ _ _ (by rw [cel_size, celL_len, hm, hs]; omega), celL_len, hm, ← ho, cel_put]

attribute [local go_sem ↓] lvState_eq svState_eq bdState_eq svFork_eq svHeader_eq svEth1_eq svCheckpoint_eq svCommittee_eq

end Go.Proofs.YtpabbglbaimadaaDoor
