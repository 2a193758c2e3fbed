/-
  Halves of a tree, as functions; the reference's recursion is the tree.
-/
import Derived.Test.YtjimdkpppgjokaaDoorMkA
namespace Go.Proofs.YtjimdkpppgjokaaDoor
open Go.RowKit
set_option linter.unusedVariables false
set_option linter.unusedSimpArgs false

theorem nd_congr (f g : Nat → Int) (len m : Nat) : ∀ (e i i' : Nat), (∀ t, t < 2 ^ e → ∀ j, j < 32 → nd f len 0 (i * 2 ^ e + t) j = nd g m 0 (i' * 2 ^ e + t) j) → ∀ j, j < 32 → nd f len e i j = nd g m e i' j
  | 0, i, i', h => by
    intro j hj
    have := h 0 (by simp) j hj
    simpa using this
  | e + 1, i, i', h => by
    intro j hj
    have hp : 2 ^ (e + 1) = 2 * 2 ^ e := by rw [Nat.pow_succ, Nat.mul_comm]
    refine tw_congr (nd_congr f g len m e (2 * i) (2 * i') fun t ht j hj => ?_) (nd_congr f g len m e (2 * i + 1) (2 * i' + 1) fun t ht j hj => ?_) j hj
    · have := h t (by omega) j hj
      rw [hp] at this
      rw [show 2 * i * 2 ^ e + t = i * (2 * 2 ^ e) + t by rw [Nat.mul_comm 2 i, Nat.mul_assoc], show 2 * i' * 2 ^ e + t = i' * (2 * 2 ^ e) + t by rw [Nat.mul_comm 2 i', Nat.mul_assoc]]
      exact this
    · have := h (2 ^ e + t) (by omega) j hj
      rw [hp] at this
      rw [show (2 * i + 1) * 2 ^ e + t = i * (2 * 2 ^ e) + (2 ^ e + t) by rw [Nat.add_mul, Nat.one_mul, Nat.mul_comm 2 i, Nat.mul_assoc, Nat.add_assoc], show (2 * i' + 1) * 2 ^ e + t = i' * (2 * 2 ^ e) + (2 ^ e + t) by rw [Nat.add_mul, Nat.one_mul, Nat.mul_comm 2 i', Nat.mul_assoc, Nat.add_assoc]]
      exact this

/-- The row from a root on. -/
def shf (f : Nat → Int) (s : Nat) (q : Nat) : Int := f (32 * s + q)
theorem shf_shf (f : Nat → Int) (s t : Nat) : shf (shf f s) t = shf f (s + t) := by
  funext q
  unfold shf
  rw [Nat.mul_add, Nat.add_assoc]
theorem rt32_shf (f : Nat → Int) (s i : Nat) : rt32 (shf f s) i = rt32 f (s + i) := by
  funext j
  unfold rt32 shf
  rw [Nat.mul_add, Nat.add_assoc]

theorem nd_left (f : Nat → Int) (n d h : Nat) (hh : h = min (2 ^ d) n) : ∀ j, j < 32 → nd f n d 0 j = nd f h d 0 j := by
  refine nd_congr f f n h d 0 0 fun t ht j hj => ?_
  unfold nd
  rw [Nat.zero_mul, Nat.zero_add]
  by_cases h1 : t < n
  · rw [if_pos h1, if_pos (by omega)]
  · rw [if_neg h1, if_neg (by omega)]
theorem nd_right (f : Nat → Int) (n d h : Nat) (hh : h = min (2 ^ d) n) : ∀ j, j < 32 → nd f n d 1 j = nd (shf f h) (n - h) d 0 j := by
  refine nd_congr f (shf f h) n (n - h) d 1 0 fun t ht j hj => ?_
  unfold nd
  rw [Nat.zero_mul, Nat.zero_add, Nat.one_mul]
  by_cases h1 : 2 ^ d + t < n
  · rw [if_pos h1, if_pos (by omega), rt32_shf, show h = 2 ^ d by omega]
  · rw [if_neg h1, if_neg (by omega)]

/-- What the reference's recursion makes of n roots from s on. -/
def trV (f : Nat → Int) : Nat → Nat → Nat → Nat → Int
  | 0, s, n => if n = 0 then zr 0 else rt32 f s
  | d + 1, s, n => if n = 0 then zr (d + 1) else tw (trV f d s (min (2 ^ d) n)) (trV f d (s + min (2 ^ d) n) (n - min (2 ^ d) n))
theorem trV_nd (f : Nat → Int) : ∀ (d s n : Nat), n ≤ 2 ^ d → ∀ j, j < 32 → trV f d s n j = nd (shf f s) n d 0 j
  | 0, s, n, hn => by
    intro j hj
    unfold trV nd
    by_cases h : n = 0
    · rw [if_pos h, if_neg (by omega)]
      rfl
    · rw [if_neg h, if_pos (by omega), rt32_shf]
      rfl
  | d + 1, s, n, hn => by
    intro j hj
    have hp : 2 ^ (d + 1) = 2 * 2 ^ d := by rw [Nat.pow_succ, Nat.mul_comm]
    unfold trV
    by_cases h : n = 0
    · subst h
      rw [if_pos rfl, nd_zero (shf f s) 0 (d + 1) 0 (by have := up_le 0 (d + 1); omega)]
    · rw [if_neg h]
      obtain ⟨m, hm⟩ : ∃ m, m = min (2 ^ d) n := ⟨_, rfl⟩
      rw [← hm]
      refine tw_congr (fun j hj => ?_) (fun j hj => ?_) j hj
      · rw [trV_nd f d s m (by omega) j hj]
        exact (nd_left (shf f s) n d m hm j hj).symm
      · rw [trV_nd f d (s + m) (n - m) (by omega) j hj, ← shf_shf]
        exact (nd_right (shf f s) n d m hm j hj).symm

/-- A zero root behind changes nothing. -/
theorem nd_more (f g : Nat → Int) (n d : Nat) (hg : ∀ q, q < 32 * n → g q = f q) (hz : ∀ q, q < 32 → g (32 * n + q) = 0) : ∀ j, j < 32 → nd g (n + 1) d 0 j = nd f n d 0 j := by
  refine nd_congr g f (n + 1) n d 0 0 fun t ht j hj => ?_
  unfold nd
  by_cases h1 : 0 * 2 ^ d + t < n
  · rw [if_pos h1, if_pos (by omega)]
    exact hg _ (by omega)
  · rw [if_neg h1]
    by_cases h2 : 0 * 2 ^ d + t < n + 1
    · rw [if_pos h2]
      have e : 0 * 2 ^ d + t = n := by omega
      rw [e]
      exact hz j hj
    · rw [if_neg h2]

end Go.Proofs.YtjimdkpppgjokaaDoor
