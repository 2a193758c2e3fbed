/-
  Bits and bytes: plain numbers.
-/
namespace Go.Proofs.Ytnokdnjhajhbgaa

/-- The number whose lowest n bits are g's. -/
def bo (g : Nat → Bool) : Nat → Nat
  | 0 => 0
  | k + 1 => bo g k + (if g k = true then 2 ^ k else 0)
theorem bo_lt (g : Nat → Bool) (k : Nat) : bo g k < 2 ^ k := by
  induction k with
  | zero => simp [bo]
  | succ k ih =>
    unfold bo
    rw [Nat.pow_succ]
    split <;> omega
theorem bo_bit (g : Nat → Bool) (n k : Nat) : (bo g n).testBit k = (decide (k < n) && g k) := by
  induction n with
  | zero => simp [bo]
  | succ n ih =>
    have hl := bo_lt g n
    unfold bo
    by_cases hg : g n = true
    · rw [if_pos hg, Nat.add_comm]
      by_cases h : k < n
      · rw [Nat.testBit_two_pow_add_gt h, ih]
        simp [h, Nat.lt_succ_of_lt h]
      · by_cases e : k = n
        · subst e
          rw [Nat.testBit_two_pow_add_eq, Nat.testBit_lt_two_pow hl]
          simp [hg]
        · rw [Nat.testBit_lt_two_pow]
          · simp [show ¬ k < n + 1 by omega]
          · have : 2 ^ (n + 1) ≤ 2 ^ k := Nat.pow_le_pow_right (by omega) (by omega)
            rw [Nat.pow_succ] at this
            omega
    · rw [if_neg hg, Nat.add_zero, ih]
      by_cases e : k = n
      · subst e
        simp at hg
        simp [hg]
      · have : k < n + 1 ↔ k < n := by omega
        simp [this]

/-- The byte q of the bytes of the first n bits of f. -/
def byt (f : Nat → Bool) (n q : Nat) : Nat := bo (fun k => decide (8 * q + k < n) && f (8 * q + k)) 8
theorem byt_lt (f : Nat → Bool) (n q : Nat) : byt f n q < 256 := bo_lt _ 8
theorem byt_bit (f : Nat → Bool) (n q k : Nat) : (byt f n q).testBit k = (decide (k < 8) && (decide (8 * q + k < n) && f (8 * q + k))) := bo_bit _ 8 k
theorem byt_zero (f : Nat → Bool) (q : Nat) : byt f 0 q = 0 := by
  apply Nat.eq_of_testBit_eq
  intro k
  rw [byt_bit]
  simp
theorem byt_past (f : Nat → Bool) (n q : Nat) (h : n ≤ 8 * q) : byt f n q = 0 := by
  apply Nat.eq_of_testBit_eq
  intro k
  rw [byt_bit]
  simp [show ¬ 8 * q + k < n by omega]
theorem byt_other (f : Nat → Bool) (n q : Nat) (h : q ≠ n / 8) : byt f (n + 1) q = byt f n q := by
  apply Nat.eq_of_testBit_eq
  intro k
  rw [byt_bit, byt_bit]
  by_cases hk : k < 8
  · have : 8 * q + k < n + 1 ↔ 8 * q + k < n := by omega
    simp [this]
  · simp [hk]
theorem byt_skip (f : Nat → Bool) (n q : Nat) (h : f n = false) : byt f (n + 1) q = byt f n q := by
  apply Nat.eq_of_testBit_eq
  intro k
  rw [byt_bit, byt_bit]
  by_cases e : 8 * q + k = n
  · rw [e, h]
    simp
  · have : 8 * q + k < n + 1 ↔ 8 * q + k < n := by omega
    simp [this]
theorem byt_or (f : Nat → Bool) (n : Nat) (h : f n = true) : byt f n (n / 8) ||| 2 ^ (n % 8) = byt f (n + 1) (n / 8) := by
  apply Nat.eq_of_testBit_eq
  intro k
  rw [Nat.testBit_or, byt_bit, byt_bit, Nat.testBit_two_pow]
  by_cases hk : k < 8
  · by_cases e : n % 8 = k
    · have e2 : 8 * (n / 8) + k = n := by omega
      rw [e2, h]
      simp [e, hk]
    · have : 8 * (n / 8) + k < n + 1 ↔ 8 * (n / 8) + k < n := by omega
      simp [this, e]
  · have : ¬ n % 8 = k := by omega
    simp [hk, this]
theorem byt_low (f : Nat → Bool) (n : Nat) : byt f n (n / 8) < 2 ^ (n % 8) := by
  apply Nat.lt_pow_two_of_testBit
  intro k hk
  rw [byt_bit]
  simp [show ¬ 8 * (n / 8) + k < n by omega]
theorem byt_add (f : Nat → Bool) (n : Nat) (h : f n = true) : byt f n (n / 8) + 2 ^ (n % 8) = byt f (n + 1) (n / 8) := by
  rw [← byt_or f n h, Nat.or_comm, Nat.add_comm]
  have := Nat.two_pow_add_eq_or_of_lt (byt_low f n) 1
  simpa using this
theorem byt_congr {f g : Nat → Bool} {n : Nat} (h : ∀ i, i < n → f i = g i) (q : Nat) : byt f n q = byt g n q := by
  apply Nat.eq_of_testBit_eq
  intro k
  rw [byt_bit, byt_bit]
  by_cases hk : 8 * q + k < n
  · rw [h _ hk]
  · simp [hk]

/-- The bit i of bytes. -/
def tb (m : Nat → Nat) (i : Nat) : Bool := (m (i / 8)).testBit (i % 8)
theorem tb_byt (f : Nat → Bool) (n i : Nat) (h : i < n) : tb (byt f n) i = f i := by
  unfold tb
  rw [byt_bit, show 8 * (i / 8) + i % 8 = i by omega]
  simp [h, show i % 8 < 8 by omega]
theorem byt_tb (m : Nat → Nat) (n q : Nat) (h1 : m q < 256) (h2 : ∀ k, k < 8 → n ≤ 8 * q + k → (m q).testBit k = false) : byt (tb m) n q = m q := by
  apply Nat.eq_of_testBit_eq
  intro k
  rw [byt_bit]
  by_cases hk : k < 8
  · by_cases hn : 8 * q + k < n
    · unfold tb
      rw [show (8 * q + k) / 8 = q by omega, show (8 * q + k) % 8 = k by omega]
      simp [hk, hn]
    · rw [h2 k hk (by omega)]
      simp [hn]
  · rw [Nat.testBit_lt_two_pow (Nat.lt_of_lt_of_le h1 (Nat.pow_le_pow_right (n := 2) (by omega) (by omega : 8 ≤ k)))]
    simp [hk]

/-- How many of the first n are set. -/
def cnt (f : Nat → Bool) : Nat → Nat
  | 0 => 0
  | n + 1 => cnt f n + (if f n = true then 1 else 0)
theorem cnt_le (f : Nat → Bool) (n : Nat) : cnt f n ≤ n := by
  induction n with
  | zero => exact Nat.le_refl _
  | succ n ih =>
    unfold cnt
    split <;> omega
theorem cnt_congr {f g : Nat → Bool} {n : Nat} (h : ∀ i, i < n → f i = g i) : cnt f n = cnt g n := by
  induction n with
  | zero => rfl
  | succ n ih =>
    unfold cnt
    rw [ih fun i hi => h i (by omega), h n (by omega)]
theorem cnt_add (f : Nat → Bool) (n m : Nat) : cnt f (n + m) = cnt f n + cnt (fun j => f (n + j)) m := by
  induction m with
  | zero => rfl
  | succ m ih =>
    show cnt f (n + m) + _ = cnt f n + (cnt (fun j => f (n + j)) m + _)
    rw [ih]
    exact Nat.add_assoc _ _ _

end Go.Proofs.Ytnokdnjhajhbgaa
