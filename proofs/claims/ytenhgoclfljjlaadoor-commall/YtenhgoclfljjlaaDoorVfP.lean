/-
  Shuffled places: plain numbers. A round takes two places of a pair to each other or leaves both, so it undoes itself.
-/

import Derived.Test.YtenhgoclfljjlaaDoorRows
import Derived.WalkKit

namespace Go.Proofs.YtenhgoclfljjlaaDoor

set_option linter.unusedVariables false

/-- The other one of a place's pair. -/
def fl (i n p : Int) : Int := (p + n - i) % n

theorem fl_up {i n p : Int} (h0 : 0 ≤ i) (h1 : i < n) (p0 : 0 ≤ p) (p1 : p < n) (h : p < i) : fl i n p = p + n - i := Int.emod_eq_of_lt (by omega) (by omega)

theorem fl_dn {i n p : Int} (h0 : 0 ≤ i) (h1 : i < n) (p0 : 0 ≤ p) (p1 : p < n) (h : i ≤ p) : fl i n p = p - i := by
  unfold fl
  rw [show p + n - i = (p - i) + n by omega, Int.add_emod_right]
  exact Int.emod_eq_of_lt (by omega) (by omega)

theorem fl_bd {i n p : Int} (h0 : 0 ≤ i) (h1 : i < n) (p0 : 0 ≤ p) (p1 : p < n) : 0 ≤ fl i n p ∧ fl i n p < n := by
  by_cases h : p < i
  · rw [fl_up h0 h1 p0 p1 h]; omega
  · rw [fl_dn h0 h1 p0 p1 (by omega)]; omega

theorem fl_fl {i n p : Int} (h0 : 0 ≤ i) (h1 : i < n) (p0 : 0 ≤ p) (p1 : p < n) : fl (fl i n p) n p = i := by
  by_cases h : p < i
  · rw [fl_up h0 h1 p0 p1 h, fl_up (by omega) (by omega) p0 p1 (by omega)]; omega
  · rw [fl_dn h0 h1 p0 p1 (by omega), fl_dn (by omega) (by omega) p0 p1 (by omega)]; omega

/-- The greater one. -/
def mx (a b : Int) : Int := if a < b then b else a

theorem mx_comm (a b : Int) : mx a b = mx b a := by unfold mx; split <;> split <;> omega

theorem mx_lt {a b k : Int} : mx a b < k ↔ a < k ∧ b < k := by unfold mx; split <;> omega

theorem mx_l {a b : Int} (h : b ≤ a) : mx a b = a := by unfold mx; rw [if_neg (by omega)]

theorem mx_r {a b : Int} (h : a ≤ b) : mx a b = b := by unfold mx; split <;> omega

/-- A place behind a round whose bits are B's, and whose pivot is p. -/
def rdX (B : Int → Bool) (p n i : Int) : Int := if B (mx i (fl i n p)) = true then fl i n p else i

theorem rdX_bd (B : Int → Bool) {i n p : Int} (h0 : 0 ≤ i) (h1 : i < n) (p0 : 0 ≤ p) (p1 : p < n) : 0 ≤ rdX B p n i ∧ rdX B p n i < n := by
  unfold rdX
  split
  · exact fl_bd h0 h1 p0 p1
  · exact ⟨h0, h1⟩

theorem rdX_rdX (B : Int → Bool) {i n p : Int} (h0 : 0 ≤ i) (h1 : i < n) (p0 : 0 ≤ p) (p1 : p < n) : rdX B p n (rdX B p n i) = i := by
  by_cases h : B (mx i (fl i n p)) = true
  · have e : rdX B p n i = fl i n p := by unfold rdX; rw [if_pos h]
    rw [e]
    unfold rdX
    rw [fl_fl h0 h1 p0 p1, mx_comm, if_pos h]
  · have e : rdX B p n i = i := by unfold rdX; rw [if_neg h]
    rw [e, e]

/-- A list of which the places below k have gone through a round. -/
def swV (B : Int → Bool) (p : Int) (n : Nat) (f : Nat → Int) (k : Nat) (j : Nat) : Int :=
  if mx j (fl j n p) < k then f (rdX B p n j).toNat else f j

theorem swV_zero (B : Int → Bool) (p : Int) (n : Nat) (f : Nat → Int) (j : Nat) : swV B p n f 0 j = f j := by
  unfold swV
  rw [if_neg]
  intro h
  have := (mx_lt.1 h).1
  omega

theorem swV_end (B : Int → Bool) {p : Int} {n : Nat} (f : Nat → Int) {j : Nat} (p0 : 0 ≤ p) (p1 : p < n) (hj : j < n) : swV B p n f n j = f (rdX B p n j).toNat := by
  unfold swV
  rw [if_pos]
  exact mx_lt.2 ⟨by omega, (fl_bd (by omega) (by omega) p0 p1).2⟩

theorem swV_stay (B : Int → Bool) {p : Int} {n : Nat} (f : Nat → Int) {k j : Nat} (p0 : 0 ≤ p) (p1 : p < n) (hj : j < n) (hk : k < n) (h : ¬ (fl k n p < k ∧ B k = true)) : swV B p n f (k + 1) j = swV B p n f k j := by
  have b1 := fl_bd (i := (j : Int)) (n := (n : Int)) (by omega) (by omega) p0 p1
  have b2 := fl_bd (i := (k : Int)) (n := (n : Int)) (by omega) (by omega) p0 p1
  have ff := fl_fl (i := (j : Int)) (n := (n : Int)) (by omega) (by omega) p0 p1
  unfold swV
  by_cases h1 : mx j (fl j n p) < k
  · have h2 : mx (j : Int) (fl j n p) < ((k + 1 : Nat) : Int) := by omega
    rw [if_pos h1, if_pos h2]
  · by_cases h2 : mx (j : Int) (fl j n p) < ((k + 1 : Nat) : Int)
    · rw [if_neg h1, if_pos h2]
      have e : mx (j : Int) (fl j n p) = k := by omega
      have hr : rdX B p n j = j := by
        unfold rdX
        rw [e]
        by_cases hB : B (k : Int) = true
        · rw [if_pos hB]
          have hq : ¬ fl (k : Int) n p < k := fun hh => h ⟨hh, hB⟩
          by_cases ejk : j = k
          · subst ejk
            have : fl (j : Int) n p < ((j + 1 : Nat) : Int) := (mx_lt.1 h2).2
            omega
          · have e2 : fl (j : Int) n p = k := by
              unfold mx at e
              split at e <;> omega
            rw [e2] at ff
            have : (j : Int) < ((k + 1 : Nat) : Int) := (mx_lt.1 h2).1
            omega
        · rw [if_neg hB]
      rw [hr, Int.toNat_natCast]
    · rw [if_neg h1, if_neg h2]

theorem swV_step (B : Int → Bool) {p : Int} {n : Nat} (f : Nat → Int) {k j q : Nat} (p0 : 0 ≤ p) (p1 : p < n) (hj : j < n) (hk : k < n) (hq : fl k n p = (q : Int)) (h : q < k) (hB : B k = true) :
    swV B p n f (k + 1) j = if j = q then swV B p n f k k else if j = k then swV B p n f k q else swV B p n f k j := by
  have b1 := fl_bd (i := (j : Int)) (n := (n : Int)) (by omega) (by omega) p0 p1
  have ff := fl_fl (i := (j : Int)) (n := (n : Int)) (by omega) (by omega) p0 p1
  have fk := fl_fl (i := (k : Int)) (n := (n : Int)) (by omega) (by omega) p0 p1
  rw [hq] at fk
  have m1 : mx (k : Int) (fl k n p) = k := by rw [hq]; exact mx_l (by omega)
  have m2 : mx (q : Int) (fl q n p) = k := by rw [fk]; exact mx_r (by omega)
  have r1 : rdX B p n k = q := by unfold rdX; rw [m1, if_pos hB, hq]
  have r2 : rdX B p n q = k := by unfold rdX; rw [m2, if_pos hB, fk]
  by_cases e1 : j = q
  · subst e1
    rw [if_pos rfl]
    unfold swV
    rw [m1, m2, if_pos (by omega), if_neg (by omega), r2, Int.toNat_natCast]
  · rw [if_neg e1]
    by_cases e2 : j = k
    · subst e2
      rw [if_pos rfl]
      unfold swV
      rw [m1, m2, if_pos (by omega), if_neg (by omega), r1, Int.toNat_natCast]
    · rw [if_neg e2]
      unfold swV
      by_cases h1 : mx j (fl j n p) < k
      · have h2 : mx (j : Int) (fl j n p) < ((k + 1 : Nat) : Int) := by omega
        rw [if_pos h1, if_pos h2]
      · have h2 : ¬ mx (j : Int) (fl j n p) < ((k + 1 : Nat) : Int) := by
          intro h2
          have e : mx (j : Int) (fl j n p) = k := by omega
          unfold mx at e
          split at e
          · rw [e] at ff; omega
          · omega
        rw [if_neg h1, if_neg h2]

end Go.Proofs.YtenhgoclfljjlaaDoor
