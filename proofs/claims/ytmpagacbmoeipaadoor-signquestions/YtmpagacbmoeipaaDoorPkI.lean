/-
  Committees compared.
-/

import Derived.Test.YtmpagacbmoeipaaDoorPkH
import Derived.DeepKeys

namespace Go.Proofs.YtmpagacbmoeipaaDoor

open Go.RowKit

set_option linter.unusedVariables false

set_option linter.unusedSimpArgs false

set_option maxRecDepth 20000

theorem mapM_all {α β : Type} {f : α → Option β} : ∀ {l : List α}, (∀ i ∈ l, ∃ b, f i = some b) → ∃ bs, l.mapM f = some bs
  | [], _ => ⟨[], by simp⟩
  | i :: l, h => by
    obtain ⟨b, hb⟩ := h i (List.mem_cons_self ..)
    obtain ⟨bs, hbs⟩ := mapM_all (l := l) fun j hj => h j (List.mem_cons_of_mem _ hj)
    exact ⟨b :: bs, by simp [List.mapM_cons, hb, hbs]⟩

theorem lits_u8 (d : Nat) (c : Int) (h : 0 ≤ c ∧ c < 256) : Tryd.prog.keyLits (d + 1) 5 [.int .u8 c] = some [.int .u8 c] := by
  have hw : (Lit.int .u8 c).wf = true := by
    have : IntKind.u8.min = 0 ∧ IntKind.u8.max = 255 := by decide
    simp [Lit.wf, this]
    omega
  simp [Program.keyLits, Tryd.underlying5, hw]

theorem lits_arr {t e : TypeId} {n d : Nat} {cs : List Value} (hu : Tryd.prog.underlying t = some (.array n e)) (hl : cs.length = Tryd.prog.cellsOf t) (h : ∀ i, i < n → ∃ la, Tryd.prog.keyLits d e ((cs.drop (i * Tryd.prog.cellsOf e)).take (Tryd.prog.cellsOf e)) = some la) : ∃ la, Tryd.prog.keyLits (d + 1) t cs = some la := by
  obtain ⟨bs, hbs⟩ := mapM_all (l := List.range n) (f := fun i => Tryd.prog.keyLits d e ((cs.drop (i * Tryd.prog.cellsOf e)).take (Tryd.prog.cellsOf e))) fun i hi => h i (List.mem_range.1 hi)
  refine ⟨bs.flatten, ?_⟩
  unfold Program.keyLits
  rw [hu]
  show (if cs.length = Tryd.prog.cellsOf t then _ else none) = _
  rw [if_pos hl, hbs]
  rfl

/-- The bytes of a row, from a place on. -/
theorem bl_part (f : Nat → Int) (n o k : Nat) (h : o + k ≤ n) : ((bl f n).drop o).take k = bl (fun j => f (o + j)) k := by
  apply List.ext_getElem?
  intro j
  rw [List.getElem?_take]
  by_cases hj : j < k
  · rw [if_pos hj, List.getElem?_drop]
    unfold bl
    rw [List.getElem?_map, List.getElem?_range (by omega), List.getElem?_map, List.getElem?_range hj]
    rfl
  · rw [if_neg hj]
    unfold bl
    rw [List.getElem?_eq_none (by simp; omega)]

theorem lits_key (d : Nat) (f : Nat → Int) (h : ∀ j, j < 48 → 0 ≤ f j ∧ f j < 256) : ∃ la, Tryd.prog.keyLits (d + 2) 44 (bl f 48) = some la := by
  have c1 : Tryd.prog.cellsOf 5 = 1 := by kernel_rfl
  have c2 : Tryd.prog.cellsOf 44 = 48 := by kernel_rfl
  refine lits_arr Tryd.underlying44 (by rw [bl_len, c2]) fun i hi => ?_
  rw [c1, Nat.mul_one, bl_part f 48 i 1 (by omega)]
  exact ⟨_, lits_u8 d (f (i + 0)) (h i hi)⟩

end Go.Proofs.YtmpagacbmoeipaaDoor
