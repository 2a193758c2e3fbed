/-
  What the small functions of package word, and the document's like of them, answer: Add, Sub, Less; bits.Add64 and bits.Mul64; Mul. For all numbers of 64 bits.
  What word.Root answers: the greatest number whose square isn't above n, for all n of 64 bits.
-/
import Derived.Test.YtficlakgameglaaDoorRows
import Derived.Test.YtficlakgameglaaDoorShelf
import Derived.Test.YtficlakgameglaaDoorNum
import Derived.WalkKit

import Derived.WalkSpells

import Derived.WalkLawsBesides

import Derived.Laws.Externs

import Derived.OpenShut

import Derived.Lib.BitFns

import Derived.ScopeJumps

namespace Go.Proofs.YtficlakgameglaaDoor

open Go.RowKit

theorem hid {p : Prop} (h : p) : Hid p := h

theorem ret2 {k l : IntKind} {a b c d : Int} (h1 : a = c) (h2 : b = d) : Ending.returned (.tuple #[.int k a, .int l b]) = .returned (.tuple #[.int k c, .int l d]) := by rw [h1, h2]

theorem ret1 {k : IntKind} {a b : Int} (h : a = b) : Ending.returned (.int k a) = .returned (.int k b) := by rw [h]

end Go.Proofs.YtficlakgameglaaDoor

namespace Go.Proofs.YtficlakgameglaaDoor

open Go.RowKit

theorem bitLen_bds : ∀ x : Nat, x < 2 ^ 64 → x < 2 ^ Lib.bitLen x ∧ (x ≠ 0 → 2 ^ Lib.bitLen x ≤ 2 * x) ∧ Lib.bitLen x ≤ 64 := by
  intro x
  induction x using Nat.strongRecOn with
  | ind x ih =>
    intro hx
    by_cases h0 : x = 0
    · subst h0; exact ⟨by decide, fun h => absurd rfl h, by decide⟩
    · have e := Lib.bitLen_half x h0 hx
      obtain ⟨i1, i2, i3⟩ := ih (x / 2) (by omega) (by omega)
      have hp : 2 ^ Lib.bitLen x = 2 * 2 ^ Lib.bitLen (x / 2) := by rw [e, Nat.add_comm, Nat.pow_succ, Nat.mul_comm]
      have hu : 2 ^ Lib.bitLen x ≤ 2 * x := by
        rw [hp]
        by_cases h1 : x / 2 = 0
        · rw [h1]
          have e0 : Lib.bitLen 0 = 0 := by decide
          rw [e0]; omega
        · have := i2 h1; omega
      refine ⟨by rw [hp]; omega, fun _ => hu, ?_⟩
      by_cases h64 : Lib.bitLen x ≤ 64
      · exact h64
      · have : (2 : Nat) ^ 65 ≤ 2 ^ Lib.bitLen x := Nat.pow_le_pow_right (by decide) (by omega)
        omega

/-- r is the root of n. -/
def IsRoot (n r : Int) : Prop := 0 ≤ r ∧ r * r ≤ n ∧ n < (r + 1) * (r + 1)

/-- The first guess is above every root. -/
theorem root_first (n : Int) (hn : 0 < n) (hn' : n < 18446744073709551616) (r : Int) (hr : 0 ≤ r) (h : r * r ≤ n) : r ≤ 2 ^ ((Lib.bitLen n.toNat + 1) / 2) := by
  obtain ⟨b1, _, _⟩ := bitLen_bds n.toNat (by omega)
  generalize Lib.bitLen n.toNat = L at *
  have hp : (0 : Int) ≤ 2 ^ ((L + 1) / 2) := Int.le_of_lt (Int.pow_pos (by decide))
  by_cases hle : r ≤ 2 ^ ((L + 1) / 2)
  · exact hle
  · have h1 : (2 : Int) ^ ((L + 1) / 2) * 2 ^ ((L + 1) / 2) ≤ r * r := Int.mul_le_mul (by omega) (by omega) hp hr
    rw [← Int.pow_add] at h1
    have h2 : (2 : Nat) ^ L ≤ 2 ^ ((L + 1) / 2 + (L + 1) / 2) := Nat.pow_le_pow_right (by decide) (by omega)
    have h3 : ((2 ^ L : Nat) : Int) ≤ ((2 ^ ((L + 1) / 2 + (L + 1) / 2) : Nat) : Int) := by omega
    have h4 : ((2 ^ ((L + 1) / 2 + (L + 1) / 2) : Nat) : Int) = (2 : Int) ^ ((L + 1) / 2 + (L + 1) / 2) := by simp
    omega

/-- A step from above stays above. -/
theorem root_step (n x r : Int) (hx : 0 < x) (_hn : 0 ≤ n) (h : r * r ≤ n) : r ≤ (x + n / x) / 2 := by
  have h1 : (2 * r - x) * x ≤ n := by
    have sq : 0 ≤ (r - x) * (r - x) := by
      rcases Int.le_total 0 (r - x) with h | h
      · exact Int.mul_nonneg h h
      · exact Int.mul_nonneg_of_nonpos_of_nonpos h h
    have e1 : (r - x) * (r - x) = r * r - 2 * (r * x) + x * x := by
      rw [Int.sub_mul, Int.mul_sub, Int.mul_sub, Int.mul_comm x r]; omega
    have e2 : (2 * r - x) * x = 2 * (r * x) - x * x := by rw [Int.sub_mul, Int.mul_assoc]
    rw [e2]
    omega
  have h2 : 2 * r - x ≤ n / x := (Int.le_ediv_iff_mul_le hx).2 h1
  omega

/-- Where the step does not go down, the root is found. -/
theorem root_end (n x : Int) (hx : 0 < x) (h : x ≤ (x + n / x) / 2) : x * x ≤ n := by
  have h1 : x ≤ n / x := by omega
  exact (Int.le_ediv_iff_mul_le hx).1 h1

theorem root_of (n x : Int) (hx : 0 ≤ x) (h1 : x * x ≤ n) (h2 : ∀ r, 0 ≤ r → r * r ≤ n → r ≤ x) : IsRoot n x := by
  refine ⟨hx, h1, ?_⟩
  by_cases h : n < (x + 1) * (x + 1)
  · exact h
  · have := h2 (x + 1) (by omega) (by omega)
    omega

theorem root_facts (n x : Int) (h0 : 0 ≤ n) (hx : 0 < x) (hx' : x ≤ 4294967296) (hr : ∀ r, 0 ≤ r → r * r ≤ n → r ≤ x) :
    IntKind.u64.wrap (n.tdiv x) = n / x ∧ IntKind.u64.wrap (x + n / x) = x + n / x ∧ IntKind.u64.wrap ((x + n / x).tdiv 2) = (x + n / x) / 2 := by
  have h1 : n < (x + 1) * (x + 1) := by
    by_cases h : n < (x + 1) * (x + 1)
    · exact h
    · have := hr (x + 1) (by omega) (by omega)
      omega
  have e : (x + 1) * (x + 1) = (x + 2) * x + 1 := by rw [Int.add_mul, Int.mul_add, Int.add_mul]; omega
  have h2 : n / x ≤ x + 2 := by
    have : n / x < x + 3 := by
      rw [Int.ediv_lt_iff_lt_mul hx]
      have e3 : (x + 3) * x = (x + 2) * x + x := by rw [Int.add_mul, Int.add_mul]; omega
      omega
    omega
  have h3 : 0 ≤ n / x := Int.ediv_nonneg h0 (by omega)
  rw [Int.tdiv_eq_ediv_of_nonneg h0, Int.tdiv_eq_ediv_of_nonneg (by omega : 0 ≤ x + n / x), IntKind.wrap_u64, IntKind.wrap_u64, IntKind.wrap_u64]
  omega

theorem root_down (n x : Int) (h0 : 0 < n) (hx : 0 < x) (_hr : ∀ r, 0 ≤ r → r * r ≤ n → r ≤ x) : 0 < (x + n / x) / 2 ∧ ∀ r, 0 ≤ r → r * r ≤ n → r ≤ (x + n / x) / 2 := by
  have hs : ∀ r, 0 ≤ r → r * r ≤ n → r ≤ (x + n / x) / 2 := fun r _ h => root_step n x r hx (by omega) h
  refine ⟨?_, hs⟩
  have := hs 1 (by decide) (by omega)
  omega

/-- What holds where 'nearer' is jumped to. -/
def Nearer (n : Int) (w : World) (a' : Act) (w' : World) : Prop :=
  w' = w ∧ ∃ (x : Int) (u4 u5 u6 u7 u8 u9 u10 u11 u12 u13 u14 u15 u16 u17 u18 u19 u20 u21 u22 : Value), a' = { tmps := #[.int .u64 n, undef, .int .u64 0, .int .u64 x, u4, u5, u6, u7, u8, u9, u10, u11, u12, u13, u14, u15, u16, u17, u18, u19, u20, u21, u22], defers := [] } ∧ 0 < x ∧ x ≤ 4294967296 ∧ ∀ r, 0 ≤ r → r * r ≤ n → r ≤ x

set_option maxHeartbeats 1000000 in
theorem root_any (n : Int) (w : World) (h0 : 0 ≤ n) (h1 : n < 18446744073709551616) :
    Calls Tryd.prog 30 #[.int .u64 n] w fun e w' => (∃ r, e = .returned (.int .u64 r) ∧ IsRoot n r) ∧ w' = w := by
  by_cases hz : n = 0
  · subst hz
    go_enter Tryd.func30, Tryd.ntmps30
    go_wp2
    go_step3
    go_wp2
    rw [Exit.noGoto_ret]
    go_ret
    exact ⟨⟨0, rfl, by decide, by decide, by decide⟩, rfl⟩
  · have hz' : (n == 0) = false := by simpa using hz
    have hL := Tryd.bits_Len64 n w h0 (by omega)
    obtain ⟨b1, b2, b3⟩ := bitLen_bds n.toNat (by omega)
    have rf := root_first n (by omega) h1
    generalize Lib.bitLen n.toNat = L at *
    have xp : (0 : Int) < 2 ^ ((L + 1) / 2) := Int.pow_pos (by decide)
    have xl : (2 : Int) ^ ((L + 1) / 2) ≤ 4294967296 := by
      have : (2 : Nat) ^ ((L + 1) / 2) ≤ 2 ^ 32 := Nat.pow_le_pow_right (by decide) (by omega)
      have h2 : ((2 ^ ((L + 1) / 2) : Nat) : Int) = (2 : Int) ^ ((L + 1) / 2) := by simp
      omega
    obtain ⟨X, hX⟩ : ∃ X : Int, 2 ^ ((L + 1) / 2) = X := ⟨_, rfl⟩
    rw [hX] at rf xp xl
    have wX : IntKind.u64.wrap X = X := by rw [IntKind.wrap_u64]; omega
    obtain ⟨f1, f2, f3⟩ := root_facts n X h0 xp xl rf
    have xz : (X == 0) = false := by simp; omega
    have xz' : ¬ X = 0 := by omega
    have RF := hid rf
    clear b1 b2 rf
    go_enter Tryd.func30, Tryd.ntmps30
    go_wp2
    refine wp_scope_jumps 0 (Nearer n w) (fun a' _ => (intOf (a'.tmps.getD 3 undef)).toNat) rfl ?_ ?_
    · go_wp2_with (go_at_call 58; refine hL.mono ?_; rintro e w' ⟨rfl, rfl⟩)
      go_step3
      go_wp2
      · go_step3
        obtain ⟨d1, d2⟩ := root_down n X (by omega) xp RF.out
        exact ⟨rfl, rfl, (X + n / X) / 2, _, _, _, _, _, _, _, _, _, _, _, _, _, _, _, _, _, _, _, rfl, d1, by omega, d2⟩
      · simp only [Exit.jump]
        go_ret
        exact ⟨⟨X, ret1 hX, root_of n X (by omega) (root_end n X xp (by assumption)) RF.out⟩, rfl⟩
    · rintro a' w' ⟨rfl, x, u4, u5, u6, u7, u8, u9, u10, u11, u12, u13, u14, u15, u16, u17, u18, u19, u20, u21, u22, rfl, hx, hx', hr⟩
      clear f1 f2 f3 xz xz' RF wX hX xp xl X
      obtain ⟨f1, f2, f3⟩ := root_facts n x h0 hx hx' hr
      have HR := hid hr
      clear hr
      have xz : (x == 0) = false := by simp; omega
      have xz' : ¬ x = 0 := by omega
      go_wp2
      · go_step3
        obtain ⟨d1, d2⟩ := root_down n x (by omega) hx HR.out
        refine ⟨rfl, ⟨rfl, (x + n / x) / 2, _, _, _, _, _, _, _, _, _, _, _, _, _, _, _, _, _, _, _, rfl, d1, by omega, d2⟩, ?_⟩
        simp [intOf]
        omega
      · simp only [Exit.jump]
        go_ret
        exact ⟨⟨x, rfl, root_of n x (by omega) (root_end n x hx (by assumption)) HR.out⟩, rfl⟩

end Go.Proofs.YtficlakgameglaaDoor
