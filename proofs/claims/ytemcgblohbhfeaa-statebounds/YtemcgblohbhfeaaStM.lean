/-
  Less in a right state leaves it right.
-/

import Derived.Test.YtemcgblohbhfeaaStD
import Derived.Test.YtemcgblohbhfeaaStL
namespace Go.Proofs.Ytemcgblohbhfeaa

open Go.RowKit

set_option linter.unusedVariables false

set_option linter.unusedSimpArgs false

set_option maxRecDepth 20000

theorem right_sim {x X : VState} (h : Sim x X) : rightB X = rightB x := by
  unfold rightB fitB lensB timB
  rw [h.e2, h.e4, h.e10, h.e14, h.e18, h.e19, h.e20, h.l7, h.l9, h.l11, h.z11, h.l12, h.z12, h.l15, h.l16, h.l21, h.z21]

theorem okR_sim {x X : VState} (h : Sim x X) (hx : OkR x) : OkR X := by
  refine ⟨by rw [h.e2]; exact hx.o2, fun j hj => ?_, fun j hj => ?_, fun j hj => ?_, fun j hj => ?_⟩
  · rw [h.z11]; exact hx.o11 j (by rw [← h.l11]; exact hj)
  · rw [h.z12]; exact hx.o12 j (by rw [← h.l12]; exact hj)
  · rw [h.e14]; exact hx.o14 j hj
  · rw [h.z21]; exact hx.o21 j (by rw [← h.l21]; exact hj)

theorem sumZ_le {z z' : Nat → Int} {n : Nat} (h : ∀ j, j < n → z' j ≤ z j) : ∀ k, k ≤ n → sumZ z' k ≤ sumZ z k
  | 0, _ => Int.le_refl _
  | k + 1, hk => Int.add_le_add (sumZ_le h k (by omega)) (h k (by omega))

theorem and8 {a b c d e f g h : Bool} (H : (a && (b && (c && (d && (e && (f && (g && h))))))) = true) : a = true ∧ b = true ∧ c = true ∧ d = true ∧ e = true ∧ f = true ∧ g = true ∧ h = true := by
  simpa using H

theorem scoB_out {z : Nat → Int} {n : Nat} (h : scoB z n = true) (i : Nat) (hi : i < n) : z i ≤ 1099511627776 := by
  unfold scoB at h
  rw [List.all_eq_true] at h
  exact of_decide_eq_true (h i (List.mem_range.2 hi))

/-- A state with less. -/
def lessV (X : VState) (z12 z21 s14 : Nat → Int) (sl : Int) : VState := { X with f12 := ⟨X.f12.a, X.f12.n, X.f12.c, z12⟩, f21 := ⟨X.f21.a, X.f21.n, X.f21.c, z21⟩, f14 := s14, f4 := { X.f4 with f0 := sl } }

theorem right_less {X : VState} {z12 z21 s14 : Nat → Int} {sl : Int} (h : rightB X = true) (h12 : ∀ j, j < X.f12.n → z12 j ≤ X.f12.z j) (h21 : ∀ j, j < X.f21.n → z21 j ≤ X.f21.z j) (h14 : ∀ j, j < 8 → s14 j ≤ X.f14 j) (hs : sl ≤ X.f4.f0) : rightB (lessV X z12 z21 s14 sl) = true := by
  obtain ⟨b1, b2, b3, b4, b5, b6, b7, b8⟩ := and8 h
  have c3 : timB (lessV X z12 z21 s14 sl) = true := by
    unfold timB at b3 ⊢
    simp only [Bool.and_eq_true, decide_eq_true_eq] at b3 ⊢
    refine ⟨⟨⟨⟨b3.1.1.1.1, Int.le_trans hs b3.1.1.1.2⟩, b3.1.1.2⟩, b3.1.2⟩, b3.2⟩
  have c6 : scoB z21 X.f21.n = true := scoB_true fun i hi => Int.le_trans (h21 i hi) (scoB_out b6 i hi)
  have c7 : togB z12 X.f12.n 144115188075855872 = true := by
    unfold togB at b7 ⊢
    exact decide_eq_true (Int.le_trans (sumZ_le h12 _ (Nat.le_refl _)) (of_decide_eq_true b7))
  have c8 : togB s14 8 144115188075855872 = true := by
    unfold togB at b8 ⊢
    exact decide_eq_true (Int.le_trans (sumZ_le h14 _ (Nat.le_refl _)) (of_decide_eq_true b8))
  show (fitB X && (lensB X && (timB (lessV X z12 z21 s14 sl) && (decide (X.f10 < 1099511627776) && (valsB X.f11.z X.f11.n && (scoB z21 X.f21.n && (togB z12 X.f12.n 144115188075855872 && togB s14 8 144115188075855872))))))) = true
  rw [b1, b2, c3, b4, b5, c6, c7, c8]
  rfl

/-- A state with one balance more. -/
def moreV (X : VState) (a : Option Addr) (c : Nat) (z : Nat → Int) : VState := { X with f12 := ⟨a, X.f12.n + 1, c, z⟩ }

theorem right_more {X : VState} {a : Option Addr} {c : Nat} {z : Nat → Int} (h : rightB X = true) : rightB (moreV X a c z) = false := by
  obtain ⟨_, b2, _⟩ := and8 h
  have e : lensB (moreV X a c z) = false := by
    unfold lensB at b2 ⊢
    simp only [Bool.and_eq_true, decide_eq_true_eq] at b2
    have h1 := b2.1.1.1
    rw [decide_eq_false (show ¬ ((moreV X a c z).f12.n : Int) = ((moreV X a c z).f11.n : Int) from by
      show ¬ ((X.f12.n + 1 : Nat) : Int) = (X.f11.n : Int)
      omega)]
    rfl
  unfold rightB
  rw [e]
  simp only [Bool.false_and, Bool.and_false]

/-- What is left of a number. -/
theorem less_ok (v l : Int) (h0 : 0 ≤ v) (hl : 0 ≤ l) : 0 ≤ v - l % (v + 1) ∧ v - l % (v + 1) ≤ v := by
  have h1 := Int.emod_nonneg l (show v + 1 ≠ 0 by omega)
  have h2 := Int.emod_lt_of_pos l (show 0 < v + 1 by omega)
  omega

theorem lens_out {X : VState} (h : rightB X = true) : X.f12.n = X.f11.n ∧ X.f21.n = X.f11.n := by
  obtain ⟨_, b2, _⟩ := and8 h
  unfold lensB at b2
  simp only [Bool.and_eq_true, decide_eq_true_eq] at b2
  omega

theorem fit_out {X : VState} (h : rightB X = true) : X.f7.n ≤ 1024 ∧ X.f9.n ≤ 8 ∧ X.f11.n ≤ 65536 ∧ X.f12.n ≤ 65536 ∧ X.f15.n ≤ 65536 ∧ X.f16.n ≤ 65536 ∧ X.f21.n ≤ 65536 := by
  obtain ⟨b1, _⟩ := and8 h
  unfold fitB at b1
  simp only [Bool.and_eq_true, decide_eq_true_eq] at b1
  omega

/-- Numbers that fit far below the bound. -/
theorem small_out {X : VState} (hx : OkR X) (h : rightB X = true) : (∀ j, j < X.f12.n → X.f12.z j ≤ 144115188075855872) ∧ (∀ j, j < X.f21.n → X.f21.z j ≤ 1099511627776) ∧ (∀ j, j < 8 → X.f14 j ≤ 144115188075855872) := by
  obtain ⟨_, _, _, _, _, b6, b7, b8⟩ := and8 h
  have key : ∀ (z : Nat → Int) (n : Nat), (∀ j, j < n → 0 ≤ z j) → sumZ z n ≤ 144115188075855872 → ∀ j, j < n → z j ≤ 144115188075855872 := fun z n h0 hs j hj => by
    have h1 := sumZ_mono h0 (j + 1) (by omega) (n - (j + 1)) (by omega)
    rw [show j + 1 + (n - (j + 1)) = n by omega] at h1
    have h2 : sumZ z (j + 1) = sumZ z j + z j := rfl
    have h3 := sumZ_pos h0 j (by omega)
    omega
  exact ⟨key _ _ (fun j hj => (hx.o12 j hj).1) (of_decide_eq_true b7), scoB_out b6, key _ _ (fun j hj => (hx.o14 j hj).1) (of_decide_eq_true b8)⟩

end Go.Proofs.Ytemcgblohbhfeaa
