/-
  Bits and bytes: what Vector, List, ReadVector and the reference answer (of the texts of layer 4, what others stand on).
-/

import Derived.Test.YtmbgidfngefniaaZaB
namespace Go.Proofs.Ytmbgidfngefniaa.Z

open Go.RowKit

set_option linter.unusedVariables false

set_option linter.unusedSimpArgs false

/-- The number whose lowest n bits are g's. -/
def bo (g : Nat → Bool) : Nat → Nat
  | 0 => 0
  | k + 1 => bo g k + (if g k = true then 2 ^ k else 0)

theorem bo_lt (g : Nat → Bool) (k : Nat) : bo g k < 2 ^ k := by
  induction k with
  | zero => simp [bo]
  | succ k ih =>
    unfold bo
    rw [Nat.pow_succ]
    split <;> omega

theorem bo_bit (g : Nat → Bool) (n k : Nat) : (bo g n).testBit k = (decide (k < n) && g k) := by
  induction n with
  | zero => simp [bo]
  | succ n ih =>
    have hl := bo_lt g n
    unfold bo
    by_cases hg : g n = true
    · rw [if_pos hg, Nat.add_comm]
      by_cases h : k < n
      · rw [Nat.testBit_two_pow_add_gt h, ih]
        simp [h, Nat.lt_succ_of_lt h]
      · by_cases e : k = n
        · subst e
          rw [Nat.testBit_two_pow_add_eq, Nat.testBit_lt_two_pow hl]
          simp [hg]
        · rw [Nat.testBit_lt_two_pow]
          · simp [show ¬ k < n + 1 by omega]
          · have : 2 ^ (n + 1) ≤ 2 ^ k := Nat.pow_le_pow_right (by omega) (by omega)
            rw [Nat.pow_succ] at this
            omega
    · rw [if_neg hg, Nat.add_zero, ih]
      by_cases e : k = n
      · subst e
        simp at hg
        simp [hg]
      · have : k < n + 1 ↔ k < n := by omega
        simp [this]

/-- The byte q of the bytes of the first n bits of f. -/
def byt (f : Nat → Bool) (n q : Nat) : Nat := bo (fun k => decide (8 * q + k < n) && f (8 * q + k)) 8

theorem byt_bit (f : Nat → Bool) (n q k : Nat) : (byt f n q).testBit k = (decide (k < 8) && (decide (8 * q + k < n) && f (8 * q + k))) := bo_bit _ 8 k

theorem byt_zero (f : Nat → Bool) (q : Nat) : byt f 0 q = 0 := by
  apply Nat.eq_of_testBit_eq
  intro k
  rw [byt_bit]
  simp

end Go.Proofs.Ytmbgidfngefniaa.Z

namespace Go.Proofs.Ytmbgidfngefniaa.Z

open Go.RowKit

set_option linter.unusedVariables false

set_option linter.unusedSimpArgs false

end Go.Proofs.Ytmbgidfngefniaa.Z

namespace Go.Proofs.Ytmbgidfngefniaa.Z

open Go.RowKit

set_option linter.unusedVariables false

set_option linter.unusedSimpArgs false

end Go.Proofs.Ytmbgidfngefniaa.Z

namespace Go.Proofs.Ytmbgidfngefniaa.Z

open Go.RowKit

set_option linter.unusedVariables false

set_option linter.unusedSimpArgs false

theorem vs0 (f : Nat → Bool) (N : Nat) : vs .u8 N (fun _ => 0) = vs .u8 N (fun q => (byt f 0 q : Int)) := vs_congr fun q _ => by rw [byt_zero]; rfl

end Go.Proofs.Ytmbgidfngefniaa.Z

namespace Go.Proofs.Ytmbgidfngefniaa.Z

open Go.RowKit

set_option linter.unusedVariables false

set_option linter.unusedSimpArgs false

end Go.Proofs.Ytmbgidfngefniaa.Z

namespace Go.Proofs.Ytmbgidfngefniaa.Z

open Go.RowKit

set_option linter.unusedVariables false

set_option linter.unusedSimpArgs false

end Go.Proofs.Ytmbgidfngefniaa.Z

namespace Go.Proofs.Ytmbgidfngefniaa.Z

open Go.RowKit

set_option linter.unusedVariables false

set_option linter.unusedSimpArgs false

end Go.Proofs.Ytmbgidfngefniaa.Z

namespace Go.Proofs.Ytmbgidfngefniaa.Z

open Go.RowKit

set_option linter.unusedVariables false

set_option linter.unusedSimpArgs false



end Go.Proofs.Ytmbgidfngefniaa.Z
