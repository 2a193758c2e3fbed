/-
  What Place and Back answer.
-/

import Derived.Test.YtenhgoclfljjlaaDoorVfC
namespace Go.Proofs.YtenhgoclfljjlaaDoor

open Go.RowKit

set_option linter.unusedVariables false

set_option linter.unusedSimpArgs false

/-- A place behind the first k rounds, and behind k rounds the other way round. -/
def plV (s : Nat → Int) (n : Int) : Nat → Int → Int
  | 0, i => i
  | k + 1, i => rdV s (k : Int) n (plV s n k i)

def bkV (s : Nat → Int) (n : Int) : Nat → Int → Int
  | 0, i => i
  | k + 1, i => rdV s (5 - (k : Int)) n (bkV s n k i)

theorem plV_bd (s : Nat → Int) {n i : Int} (h0 : 0 ≤ i) (h1 : i < n) (k : Nat) : 0 ≤ plV s n k i ∧ plV s n k i < n := by
  induction k with
  | zero => exact ⟨h0, h1⟩
  | succ k ih => exact rdV_bd s _ ih.1 ih.2

theorem bkV_bd (s : Nat → Int) {n i : Int} (h0 : 0 ≤ i) (h1 : i < n) (k : Nat) : 0 ≤ bkV s n k i ∧ bkV s n k i < n := by
  induction k with
  | zero => exact ⟨h0, h1⟩
  | succ k ih => exact rdV_bd s _ ih.1 ih.2

theorem bk_pl (s : Nat → Int) {n i : Int} (h0 : 0 ≤ i) (h1 : i < n) : bkV s n 6 (plV s n 6 i) = i := by
  have p := fun k => plV_bd s h0 h1 k
  have e : ∀ k : Nat, k < 6 → rdV s (k : Int) n (plV s n (k + 1) i) = plV s n k i := fun k _ => rdV_rdV s _ (p k).1 (p k).2
  show rdV s 0 n (rdV s 1 n (rdV s 2 n (rdV s 3 n (rdV s 4 n (rdV s 5 n (plV s n 6 i)))))) = i
  have e5 : rdV s 5 n (plV s n 6 i) = plV s n 5 i := e 5 (by omega)
  have e4 : rdV s 4 n (plV s n 5 i) = plV s n 4 i := e 4 (by omega)
  have e3 : rdV s 3 n (plV s n 4 i) = plV s n 3 i := e 3 (by omega)
  have e2 : rdV s 2 n (plV s n 3 i) = plV s n 2 i := e 2 (by omega)
  have e1 : rdV s 1 n (plV s n 2 i) = plV s n 1 i := e 1 (by omega)
  have e0 : rdV s 0 n (plV s n 1 i) = plV s n 0 i := e 0 (by omega)
  rw [e5, e4, e3, e2, e1, e0]
  rfl

theorem pl_bk (s : Nat → Int) {n i : Int} (h0 : 0 ≤ i) (h1 : i < n) : plV s n 6 (bkV s n 6 i) = i := by
  have p := fun k => bkV_bd s h0 h1 k
  have e : ∀ k : Nat, k < 6 → rdV s (5 - (k : Int)) n (bkV s n (k + 1) i) = bkV s n k i := fun k _ => rdV_rdV s _ (p k).1 (p k).2
  show rdV s 5 n (rdV s 4 n (rdV s 3 n (rdV s 2 n (rdV s 1 n (rdV s 0 n (bkV s n 6 i)))))) = i
  have e5 : rdV s 0 n (bkV s n 6 i) = bkV s n 5 i := e 5 (by omega)
  have e4 : rdV s 1 n (bkV s n 5 i) = bkV s n 4 i := e 4 (by omega)
  have e3 : rdV s 2 n (bkV s n 4 i) = bkV s n 3 i := e 3 (by omega)
  have e2 : rdV s 3 n (bkV s n 3 i) = bkV s n 2 i := e 2 (by omega)
  have e1 : rdV s 4 n (bkV s n 2 i) = bkV s n 1 i := e 1 (by omega)
  have e0 : rdV s 5 n (bkV s n 1 i) = bkV s n 0 i := e 0 (by omega)
  rw [e5, e4, e3, e2, e1, e0]
  rfl

attribute [local go_sem ↓] sv24_eq lv24_eq sv8_eq

end Go.Proofs.YtenhgoclfljjlaaDoor
