/-
  Who leaves goes in its turn, in plain numbers.
-/

import Derived.Test.YtlplmdhlelgihaaGreatDoorQM
import Derived.Test.YtlplmdhlelgihaaGreatDoorSlF
import Derived.Test.YtlplmdhlelgihaaGreatDoorStD
namespace Go.Proofs.YtlplmdhlelgihaaGreatDoor

open Go.RowKit

set_option linter.unusedVariables false

set_option linter.unusedSimpArgs false

set_option maxRecDepth 20000

theorem lvQ_max (z : Nat → VValidator) (e : Int) : ∀ k j, j < k → ¬ (z j).f6 = far → (z j).f6 ≤ lvQ z e k
  | 0, j, h, _ => absurd h (Nat.not_lt_zero _)
  | k + 1, j, h, hf => by
    show _ ≤ (if ¬ (z k).f6 = far ∧ lvQ z e k < (z k).f6 then (z k).f6 else lvQ z e k)
    by_cases hj : j = k
    · subst hj
      by_cases hl : lvQ z e j < (z j).f6
      · rw [if_pos ⟨hf, hl⟩]; exact Int.le_refl _
      · rw [if_neg (fun c => hl c.2)]; omega
    · have := lvQ_max z e k j (by omega) hf
      split <;> omega

theorem lvQ_ub (z : Nat → VValidator) (e B : Int) (h0 : e + 3 ≤ B) : ∀ k, (∀ j, j < k → (z j).f6 = far ∨ (z j).f6 ≤ B) → lvQ z e k ≤ B
  | 0, _ => h0
  | k + 1, h => by
    have h1 := lvQ_ub z e B h0 k fun j hj => h j (by omega)
    show (if ¬ (z k).f6 = far ∧ lvQ z e k < (z k).f6 then (z k).f6 else lvQ z e k) ≤ B
    by_cases hc : ¬ (z k).f6 = far ∧ lvQ z e k < (z k).f6
    · rw [if_pos hc]
      rcases h k (by omega) with h2 | h2
      · exact absurd h2 hc.1
      · exact h2
    · rw [if_neg hc]; exact h1

theorem lvN_zero (z : Nat → VValidator) (q : Int) : ∀ k, (∀ j, j < k → ¬ (z j).f6 = q) → lvN z q k = 0
  | 0, _ => rfl
  | k + 1, h => by
    show lvN z q k + (if (z k).f6 = q then 1 else 0) = 0
    rw [lvN_zero z q k fun j hj => h j (by omega), if_neg (h k (by omega))]

theorem lvN_upd {z z' : Nat → VValidator} {q : Int} {i : Nat} (h1 : ¬ (z i).f6 = q) (h2 : (z' i).f6 = q) (h : ∀ j, j ≠ i → (z' j).f6 = (z j).f6) : ∀ k, lvN z' q k = lvN z q k + (if i < k then 1 else 0)
  | 0 => rfl
  | k + 1 => by
    show lvN z' q k + (if (z' k).f6 = q then 1 else 0) = lvN z q k + (if (z k).f6 = q then 1 else 0) + (if i < k + 1 then 1 else 0)
    rw [lvN_upd h1 h2 h k]
    by_cases hk : k = i
    · subst hk
      rw [if_neg (Nat.lt_irrefl _), if_pos h2, if_neg h1, if_pos (Nat.lt_succ_self _)]
    · rw [h k hk]
      by_cases hl : i < k
      · rw [if_pos hl, if_pos (show i < k + 1 by omega)]; omega
      · rw [if_neg hl, if_neg (show ¬ i < k + 1 by omega)]; omega

theorem chu_ge (x : VState) : 2 ≤ chuS x := by
  unfold chuS
  split <;> omega

theorem right_f6 {X : VState} (h : rightB X = true) (j : Nat) (hj : j < X.f11.n) : (X.f11.z j).f6 = far ∨ (X.f11.z j).f6 ≤ 2199023255551 := by
  have hv := (rightB_out h).cv j hj
  unfold vldB epB at hv
  simp only [Bool.and_eq_true, Bool.or_eq_true, decide_eq_true_eq] at hv
  unfold far
  omega

/-- Who leaves now. -/
theorem queue_step {Y : VState} (h : OkState Y) (hr : rightB Y = true) (i : Nat) (hi : i < Y.f11.n) (hf : (Y.f11.z i).f6 = far) :
    Y.f2 / 4 + 3 ≤ lvX Y ∧ lvX Y < 18446744073709551616 ∧ ¬ lvX Y = far ∧ ((lvS Y i).f11.z i).f6 = lvX Y ∧ ((lvS Y i).f11.z i).f7 = w64 (lvX Y + 2) ∧ (∀ j, j < Y.f11.n → ¬ (Y.f11.z j).f6 = far → (Y.f11.z j).f6 ≤ lvX Y) ∧ ((lvN (lvS Y i).f11.z (lvX Y) Y.f11.n : Nat) : Int) ≤ chuS Y := by
  have h2 := (rightB_out hr).c7
  have h0 := h.o2.1
  have hge := lvX_ge h h2
  have hub := lvQ_ub Y.f11.z (Y.f2 / 4) 2199023255551 (by omega) Y.f11.n fun j hj => by
    rcases right_f6 hr j hj with a | a
    · exact .inl a
    · exact .inr a
  have hlv : lvS Y i = valS Y i (lvV (lvX Y)) := if_pos hf
  have hlX : lvX Y = if chuS Y ≤ (lvN Y.f11.z (lvQ Y.f11.z (Y.f2 / 4) Y.f11.n) Y.f11.n : Int) then w64 (lvQ Y.f11.z (Y.f2 / 4) Y.f11.n + 1) else lvQ Y.f11.z (Y.f2 / 4) Y.f11.n := rfl
  have hq3 := (lvQ_bd Y.f11.z (Y.f2 / 4) (by omega) (by omega) Y.f11.n fun j hj => (h.o11 j hj).2.2.2.2.2.2.1).1
  have hmx := lvQ_max Y.f11.z (Y.f2 / 4) Y.f11.n
  have hc2 := chu_ge Y
  obtain ⟨Q, eQ⟩ : ∃ q, lvQ Y.f11.z (Y.f2 / 4) Y.f11.n = q := ⟨_, rfl⟩
  rw [eQ] at hlX hub hq3 hmx
  have hw : w64 (Q + 1) = Q + 1 := w64_in (by omega) (by omega)
  rw [hw] at hlX
  have hnf : ¬ lvX Y = far := by
    unfold far
    rw [hlX]
    split <;> omega
  have hle : Q ≤ lvX Y := by rw [hlX]; split <;> omega
  have h6 : ((lvS Y i).f11.z i).f6 = lvX Y := by rw [hlv, valS_at]; rfl
  refine ⟨hge.1, hge.2, hnf, h6, by rw [hlv, valS_at]; rfl, fun j hj hn => Int.le_trans (hmx j hj hn) hle, ?_⟩
  have hup := lvN_upd (z := Y.f11.z) (z' := (lvS Y i).f11.z) (q := lvX Y) (i := i) (by rw [hf]; exact fun e => hnf e.symm) h6 (fun j hj => by rw [hlv, valS_off _ _ _ _ hj]) Y.f11.n
  rw [hup, if_pos hi]
  by_cases hc : chuS Y ≤ (lvN Y.f11.z Q Y.f11.n : Int)
  · rw [if_pos hc] at hlX
    have hz := lvN_zero Y.f11.z (lvX Y) Y.f11.n fun j hj e => by
      by_cases hn : (Y.f11.z j).f6 = far
      · exact hnf (e.symm.trans hn)
      · have := hmx j hj hn
        omega
    rw [hz]
    omega
  · rw [if_neg hc] at hlX
    rw [hlX]
    omega

end Go.Proofs.YtlplmdhlelgihaaGreatDoor
