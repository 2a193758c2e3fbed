/-
  What ssz.LayMany and the reference's four and LayMany answer.
-/
import Derived.Test.YtppjpodlnelomabSzT
namespace Go.Proofs.Ytppjpodlnelomab
open Go.RowKit
set_option linter.unusedVariables false
set_option linter.unusedSimpArgs false

/-- The bytes of the part number r; the first k offsets; the first k parts. -/
def prt (f : Nat → Nat → Int) (L : Nat → Nat) (r : Nat) : List Int := (List.range (L r)).map (f r)
theorem prt_len (f : Nat → Nat → Int) (L : Nat → Nat) (r : Nat) : (prt f L r).length = L r := by simp [prt]
theorem bl_prt (f : Nat → Nat → Int) (L : Nat → Nat) (r : Nat) : bl (f r) (L r) = iv (prt f L r) := by simp [bl, iv, prt]
def offs (L : Nat → Nat) (H : Nat) : Nat → List Int
  | 0 => []
  | k + 1 => offs L H k ++ fourL (H + sumL L k)
theorem offs_len (L : Nat → Nat) (H k : Nat) : (offs L H k).length = 4 * k := by
  induction k with
  | zero => rfl
  | succ k ih =>
    unfold offs
    rw [List.length_append, ih]
    simp [fourL]
    omega
def cats (f : Nat → Nat → Int) (L : Nat → Nat) : Nat → List Int
  | 0 => []
  | k + 1 => cats f L k ++ prt f L k
theorem cats_len (f : Nat → Nat → Int) (L : Nat → Nat) (k : Nat) : (cats f L k).length = sumL L k := by
  induction k with
  | zero => rfl
  | succ k ih =>
    unfold cats sumL
    rw [List.length_append, ih, prt_len]
/-- The bytes of a list of parts of any size. -/
def layM (f : Nat → Nat → Int) (L : Nat → Nat) (n : Nat) : List Int := offs L (4 * n) n ++ cats f L n
theorem layM_len (f : Nat → Nat → Int) (L : Nat → Nat) (n : Nat) : (layM f L n).length = 4 * n + sumL L n := by
  unfold layM
  rw [List.length_append, offs_len, cats_len]

end Go.Proofs.Ytppjpodlnelomab
