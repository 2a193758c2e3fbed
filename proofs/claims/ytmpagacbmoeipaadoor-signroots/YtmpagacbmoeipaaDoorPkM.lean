/-
  What changes of a copied state do; who proposes in states that differ where it does not matter.
-/

import Derived.Test.YtmpagacbmoeipaaDoorPkE
import Derived.Test.YtmpagacbmoeipaaDoorStS
import Derived.Test.YtmpagacbmoeipaaDoorPkH
import Derived.Test.YtmpagacbmoeipaaDoorStJ
import Derived.Test.YtmpagacbmoeipaaDoorLkG
namespace Go.Proofs.YtmpagacbmoeipaaDoor

open Go.RowKit

set_option linter.unusedVariables false

set_option linter.unusedSimpArgs false

set_option maxRecDepth 20000

theorem put_seg (l1 m m' l2 : List Seg) (hm : slen m' = slen m) : putL (cel (l1 ++ m ++ l2)) (slen l1) (celL m') = cel (l1 ++ m' ++ l2) := by
  have hs : slen (l1 ++ m ++ l2) = slen l1 + slen m + slen l2 := by
    rw [← celL_len, celL_app, celL_app, List.length_append, List.length_append, celL_len, celL_len, celL_len]
  rw [putL_eq _ _ _ (by rw [cel_size, celL_len, hm, hs]; omega), celL_len, hm, cel_put]

theorem celL_by (N : Nat) (u : Nat → Int) : celL [.by N u] = bl u N := by
  show (List.range N).map _ ++ [] = _
  rw [List.append_nil]
  rfl

theorem byte_at {w : World} {g : Nat} {t : TypeId} (l1 l2 : List Seg) (N : Nat) (f : Nat → Int) (h : w.heap[g]? = some (.cells (cel (l1 ++ [.by N f] ++ l2)) t)) (p : Nat) (hp : p < N) : w.cell? ⟨g, slen l1 + p, none⟩ = some (.int .u8 (f p)) := by
  rw [row_cell h]
  show (celL (l1 ++ [.by N f] ++ l2)).toArray[slen l1 + p]? = _
  rw [List.getElem?_toArray, celL_app, celL_app, List.append_assoc, List.getElem?_append_right (by rw [celL_len]; omega), celL_len, Nat.add_sub_cancel_left, celL_by, List.getElem?_append_left (by rw [bl_len]; exact hp)]
  unfold bl
  rw [List.getElem?_map, List.getElem?_range hp]
  rfl

theorem splitKA (x : VState) (u : Nat → Int) : sState { x with f1 := u } = (sState x).take 1 ++ [.by 32 u] ++ (sState x).drop 2 := by kernel_rfl

theorem len1 (x : VState) : slen ((sState x).take 1) = 1 := by kernel_rfl

theorem at1 {w : World} {g : Nat} {x : VState} {t : TypeId} (h : w.heap[g]? = some (.cells (cel (sState x)) t)) (p : Nat) (hp : p < 32) : w.cell? ⟨g, 1 + p, none⟩ = some (.int .u8 (x.f1 p)) := by
  have := byte_at ((sState x).take 1) ((sState x).drop 2) 32 x.f1 (t := t) (by rw [← splitKA]; exact h) p hp
  rw [len1] at this
  exact this

end Go.Proofs.YtmpagacbmoeipaaDoor
