/-
  What Mix and Holds answer.
-/
import Derived.Test.YtjimdkpppgjokaaDoorMkI
namespace Go.Proofs.YtjimdkpppgjokaaDoor
open Go.RowKit
set_option linter.unusedVariables false
set_option linter.unusedSimpArgs false

attribute [local go_sem ↓] sv24_eq lv24_eq ix22_eq slr_eq lv48_eq sv48_eq bd48_eq bd27_eq bs22_eq sl22_eq mk22_eq

/-- A number as a chunk. -/
def nmB (n : Int) (j : Nat) : Int := n / 2 ^ (8 * j) % 256
def nmC (n : Int) (j : Nat) : Int := if j < 8 then nmB n j else 0
theorem nmC_bd (n : Int) (j : Nat) : 0 ≤ nmC n j ∧ nmC n j < 256 := by
  unfold nmC nmB
  by_cases h : j < 8
  · rw [if_pos h]; omega
  · rw [if_neg h]; omega

/-- Roots compared. -/
def eqR (c d : Nat → Int) : Bool := (List.range 32).all fun j => c j == d j
theorem eqR_self (c : Nat → Int) : eqR c c = true := by simp [eqR]
theorem eqR_congr {c c' d d' : Nat → Int} (h : ∀ j, j < 32 → c j = c' j) (h' : ∀ j, j < 32 → d j = d' j) : eqR c d = eqR c' d' := by
  unfold eqR
  rw [Bool.eq_iff_iff]
  simp only [List.all_eq_true, List.mem_range, beq_iff_eq]
  constructor
  · intro hh j hj; rw [← h j hj, ← h' j hj]; exact hh j hj
  · intro hh j hj; rw [h j hj, h' j hj]; exact hh j hj
theorem eq32g (w : World) (c d : Nat → Int) : (Op.equalIn 10000 33 (.agg (vs .u8 32 c)) (.agg (vs .u8 32 d))).run Tryd.prog w = .ok (eqR c d) w := by
  have hi : ∃ i, Tryd.prog.info? 5 = some i := Option.isSome_iff_exists.1 (by kernel_rfl)
  obtain ⟨i, hi⟩ := hi
  have hc : Tryd.prog.cellsOf 5 = 1 := by kernel_rfl
  rw [run_equalIn_array w 9999 _ _ Tryd.underlying33 hi, hc]
  exact run_eqItems_ints (P := Tryd.prog) 9998 5 .u8 .u8 Tryd.underlying5 agg_u8 (vs .u8 32 c) (vs .u8 32 d) c d w (List.range 32) (by
    intro j hj
    have hj := List.mem_range.1 hj
    exact ⟨vs_get _ _ _ _ hj, vs_get _ _ _ _ hj⟩)

/-- What comes out of a leaf and the first k roots of a branch. -/
def upV (leaf f : Nat → Int) (p : Nat) : Nat → Nat → Int
  | 0 => leaf
  | k + 1 => if p / 2 ^ k % 2 = 1 then tw (rt32 f k) (upV leaf f p k) else tw (upV leaf f p k) (rt32 f k)
theorem upV_bd {leaf f : Nat → Int} (hl : ∀ j, j < 32 → 0 ≤ leaf j ∧ leaf j < 256) (p k : Nat) : ∀ j, j < 32 → 0 ≤ upV leaf f p k j ∧ upV leaf f p k j < 256 := by
  intro j hj
  cases k with
  | zero => exact hl j hj
  | succ k =>
    unfold upV
    split
    · exact tw_bd _ _ _
    · exact tw_bd _ _ _
def holdsV (leaf f : Nat → Int) (len p : Nat) (root : Nat → Int) : Bool := decide (len ≤ 64) && eqR (upV leaf f p len) root

end Go.Proofs.YtjimdkpppgjokaaDoor
