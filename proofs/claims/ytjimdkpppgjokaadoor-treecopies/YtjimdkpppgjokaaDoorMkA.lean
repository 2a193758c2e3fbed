/-
  Trees of hashes, as functions: zero roots, the nodes of a tree, the depth of a limit.
-/
import Derived.Test.YtjimdkpppgjokaaDoorShaV
import Derived.Lib.BitFns
namespace Go.Proofs.YtjimdkpppgjokaaDoor
open Go.RowKit
set_option linter.unusedVariables false
set_option linter.unusedSimpArgs false

/-- The hash of two roots. -/
def tw (a b : Nat → Int) : Nat → Int := shaV KW HW (cat a b) 64
theorem tw_bd (a b : Nat → Int) (j : Nat) : 0 ≤ tw a b j ∧ tw a b j < 256 := shaV_bd _ _ _ _ _
theorem tw_congr {a a' b b' : Nat → Int} (ha : ∀ j, j < 32 → a j = a' j) (hb : ∀ j, j < 32 → b j = b' j) (j : Nat) (hj : j < 32) : tw a b j = tw a' b' j :=
  shaV_congr (fun i hi => by
    unfold cat
    by_cases h : i < 32
    · rw [if_pos h, if_pos h, ha i h]
    · rw [if_neg h, if_neg h, hb _ (by omega)]) j hj

/-- The zero roots. -/
def zr : Nat → Nat → Int
  | 0 => fun _ => 0
  | n + 1 => tw (zr n) (zr n)
theorem zr_bd (n j : Nat) : 0 ≤ zr n j ∧ zr n j < 256 := by
  cases n with
  | zero => unfold zr; omega
  | succ n => exact tw_bd _ _ _

/-- The root number i of a flat row. -/
def rt32 (f : Nat → Int) (i : Nat) : Nat → Int := fun j => f (32 * i + j)

/-- The node number i of the level d of a tree over the first len roots of f. -/
def nd (f : Nat → Int) (len : Nat) : Nat → Nat → Nat → Int
  | 0, i => if i < len then rt32 f i else fun _ => 0
  | d + 1, i => tw (nd f len d (2 * i)) (nd f len d (2 * i + 1))

def ByB (f : Nat → Int) (n : Nat) : Prop := ∀ q, q < n → 0 ≤ f q ∧ f q < 256

theorem nd_bd {f : Nat → Int} {len : Nat} (hf : ByB f (32 * len)) (d i j : Nat) (hj : j < 32) : 0 ≤ nd f len d i j ∧ nd f len d i j < 256 := by
  cases d with
  | zero =>
    unfold nd
    by_cases h : i < len
    · rw [if_pos h]; exact hf _ (by omega)
    · rw [if_neg h]; omega
  | succ d => exact tw_bd _ _ _

/-- How many nodes of a level stand over roots. -/
def up (len : Nat) : Nat → Nat
  | 0 => len
  | d + 1 => (up len d + 1) / 2
theorem up_le (len d : Nat) : up len d ≤ len := by
  induction d with
  | zero => exact Nat.le_refl _
  | succ d ih => show (up len d + 1) / 2 ≤ len; omega
theorem up_pow (len d : Nat) (h : len ≤ 2 ^ d) : up len d ≤ 1 := by
  have key : ∀ d, up len d = (len + (2 ^ d - 1)) / 2 ^ d := by
    intro d
    induction d with
    | zero => simp [up]
    | succ d ih =>
      show (up len d + 1) / 2 = _
      have hp : 0 < 2 ^ d := Nat.two_pow_pos d
      rw [ih, Nat.pow_succ, ← Nat.div_div_eq_div_mul]
      have e : len + (2 ^ d * 2 - 1) = (len + (2 ^ d - 1)) + 2 ^ d := by omega
      rw [e, Nat.add_div_right _ hp]
  rw [key]
  have hp : 0 < 2 ^ d := Nat.two_pow_pos d
  have : (len + (2 ^ d - 1)) < 2 * 2 ^ d := by omega
  have := (Nat.div_lt_iff_lt_mul hp).2 this
  omega

/-- Nodes that stand over nothing are zero roots. -/
theorem nd_zero (f : Nat → Int) (len : Nat) : ∀ d i, up len d ≤ i → nd f len d i = zr d
  | 0, i, h => by
    unfold nd zr
    rw [if_neg (by show ¬ i < len; exact Nat.not_lt.2 h)]
  | d + 1, i, h => by
    have h : (up len d + 1) / 2 ≤ i := h
    show tw _ _ = tw _ _
    rw [nd_zero f len d (2 * i) (by omega), nd_zero f len d (2 * i + 1) (by omega)]

/-- The depth of a limit. -/
def dpt (n : Nat) : Nat := if n = 0 then 0 else Lib.bitLen (n - 1)
theorem bitLen_lt (x : Nat) (hx : x < 2 ^ 64) : x < 2 ^ Lib.bitLen x := by
  induction x using Nat.strongRecOn with
  | _ x ih =>
    by_cases h0 : x = 0
    · subst h0; exact Nat.two_pow_pos _
    · rw [Lib.bitLen_half x h0 hx, Nat.add_comm, Nat.pow_succ]
      have := ih (x / 2) (by omega) (by omega)
      omega
theorem bitLen_ge (x k : Nat) (hx : x < 2 ^ 64) (h : k < Lib.bitLen x) : 2 ^ k ≤ x := by
  induction x using Nat.strongRecOn generalizing k with
  | _ x ih =>
    by_cases h0 : x = 0
    · subst h0
      have : Lib.bitLen 0 = 0 := by decide
      omega
    · rw [Lib.bitLen_half x h0 hx] at h
      cases k with
      | zero => simp; omega
      | succ k =>
        have := ih (x / 2) (by omega) k (by omega) (by omega)
        rw [Nat.pow_succ]
        omega
theorem dpt_ge (n : Nat) (hn : n ≤ 2 ^ 40) : n ≤ 2 ^ dpt n := by
  unfold dpt
  by_cases h : n = 0
  · rw [h]; exact Nat.zero_le _
  · rw [if_neg h]
    have := bitLen_lt (n - 1) (by omega)
    omega
theorem dpt_lt (n k : Nat) (hn : n ≤ 2 ^ 40) (hk : k < dpt n) : 2 ^ k < n := by
  unfold dpt at hk
  by_cases h : n = 0
  · rw [if_pos h] at hk; omega
  · rw [if_neg h] at hk
    have := bitLen_ge (n - 1) k (by omega) hk
    omega
theorem dpt_le (n : Nat) (hn : n ≤ 2 ^ 40) : dpt n ≤ 40 := by
  by_cases h : dpt n ≤ 40
  · exact h
  · have := dpt_lt n 40 hn (by omega)
    omega
theorem dpt_pow (d : Nat) (hd : d ≤ 40) : dpt (2 ^ d) = d := by
  have h2 : 2 ^ d ≤ 2 ^ 40 := Nat.pow_le_pow_right (by omega) hd
  have h1 := dpt_ge (2 ^ d) h2
  by_cases h : dpt (2 ^ d) < d
  · have : 2 ^ dpt (2 ^ d) < 2 ^ d := Nat.pow_lt_pow_right (by omega) h
    omega
  · by_cases h3 : d < dpt (2 ^ d)
    · have := dpt_lt (2 ^ d) d h2 h3
      omega
    · omega

end Go.Proofs.YtjimdkpppgjokaaDoor
