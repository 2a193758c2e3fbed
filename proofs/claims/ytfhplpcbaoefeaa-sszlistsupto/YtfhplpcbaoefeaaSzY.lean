/-
  The bytes of a container; what layContainer answers.
-/
import Derived.Test.YtfhplpcbaoefeaaSzW
namespace Go.Proofs.Ytfhplpcbaoefeaa
open Go.RowKit
set_option linter.unusedVariables false
set_option linter.unusedSimpArgs false

/-- How many bytes the parts of any size have, among the first k; their bytes; the bytes of the head. -/
def loL (zs : Nat → Int) (L : Nat → Nat) : Nat → Nat
  | 0 => 0
  | k + 1 => loL zs L k + (if zs k = 0 then L k else 0)
def loB (zs : Nat → Int) (f : Nat → Nat → Int) (L : Nat → Nat) : Nat → List Int
  | 0 => []
  | k + 1 => loB zs f L k ++ (if zs k = 0 then prt f L k else [])
def hdB (zs : Nat → Int) (f : Nat → Nat → Int) (L : Nat → Nat) (H : Nat) : Nat → List Int
  | 0 => []
  | k + 1 => hdB zs f L H k ++ (if zs k = 0 then fourL (H + loL zs L k) else prt f L k)
theorem loB_len (zs : Nat → Int) (f : Nat → Nat → Int) (L : Nat → Nat) (k : Nat) : (loB zs f L k).length = loL zs L k := by
  induction k with
  | zero => rfl
  | succ k ih =>
    unfold loB loL
    rw [List.length_append, ih]
    by_cases h : zs k = 0
    · rw [if_pos h, if_pos h, prt_len]
    · rw [if_neg h, if_neg h]
      rfl
theorem loL_mono (zs : Nat → Int) (L : Nat → Nat) {i j : Nat} (h : i ≤ j) : loL zs L i ≤ loL zs L j := by
  induction j with
  | zero => have : i = 0 := by omega
            subst this
            exact Nat.le_refl _
  | succ j ih =>
    by_cases hj : i ≤ j
    · have := ih hj
      show loL zs L i ≤ loL zs L j + _
      omega
    · have : i = j + 1 := by omega
      subst this
      exact Nat.le_refl _
/-- The parts of a known size have it. -/
def Fits (zs : Nat → Int) (L : Nat → Nat) (n : Nat) : Prop := ∀ r, r < n → zs r ≠ 0 → (L r : Int) = zs r
theorem hdB_len (zs : Nat → Int) (f : Nat → Nat → Int) (L : Nat → Nat) (H k : Nat) (hf : Fits zs L k) : (hdB zs f L H k).length = hdL zs k := by
  induction k with
  | zero => rfl
  | succ k ih =>
    unfold hdB hdL
    rw [List.length_append, ih fun r hr => hf r (by omega)]
    by_cases h : zs k = 0
    · rw [if_pos h]
      unfold inH
      rw [if_pos h]
      rfl
    · rw [if_neg h, prt_len]
      unfold inH
      rw [if_neg h]
      have := hf k (by omega) h
      omega
def layC (zs : Nat → Int) (f : Nat → Nat → Int) (L : Nat → Nat) (n : Nat) : List Int := hdB zs f L (hdL zs n) n ++ loB zs f L n
theorem layC_len (zs : Nat → Int) (f : Nat → Nat → Int) (L : Nat → Nat) (n : Nat) (hf : Fits zs L n) : (layC zs f L n).length = hdL zs n + loL zs L n := by
  unfold layC
  rw [List.length_append, hdB_len _ _ _ _ _ hf, loB_len]

end Go.Proofs.Ytfhplpcbaoefeaa
