/-
  What a slashing brings to all balances together; who was slashed.
-/

import Derived.Test.YtlplmdhlelgihaaGreatDoorSlU
import Derived.Test.YtlplmdhlelgihaaGreatDoorStC
namespace Go.Proofs.YtlplmdhlelgihaaGreatDoor

open Go.RowKit

set_option linter.unusedVariables false

set_option linter.unusedSimpArgs false

set_option maxRecDepth 20000

theorem sumZ_upd (z : Nat → Int) (i : Nat) (v : Int) : ∀ n, sumZ (fun j => if j = i then v else z j) n = sumZ z n + (if i < n then v - z i else 0)
  | 0 => rfl
  | n + 1 => by
    show sumZ (fun j => if j = i then v else z j) n + (if n = i then v else z n) = sumZ z n + z n + _
    rw [sumZ_upd z i v n]
    by_cases h : n = i
    · subst h
      rw [if_pos rfl, if_neg (Nat.lt_irrefl _), if_pos (Nat.lt_succ_self _)]
      omega
    · rw [if_neg h]
      by_cases hl : i < n
      · rw [if_pos hl, if_pos (show i < n + 1 by omega)]; omega
      · rw [if_neg hl, if_neg (show ¬ i < n + 1 by omega)]; omega

theorem sumZ_all {z : Nat → Int} {n : Nat} (h : ∀ j, j < n → 0 ≤ z j) (k : Nat) (hk : k ≤ n) : 0 ≤ sumZ z k ∧ sumZ z k ≤ sumZ z n := by
  refine ⟨sumZ_pos h k hk, ?_⟩
  have := sumZ_mono h k hk (n - k) (by omega)
  rw [show k + (n - k) = n by omega] at this
  exact this

theorem sum_slS {X : VState} (h : OkState X) (hr : rightB X = true) (i : Nat) (hi : i < X.f11.n) (hp : prE X = 0) :
    sumZ (slS X i).f12.z X.f12.n ≤ sumZ X.f12.z X.f12.n + effS X i / 512 ∧ sumZ (slS X i).f12.z X.f12.n < 288230376151711744 ∧ ∀ j, j < X.f12.n → 0 ≤ (slS X i).f12.z j := by
  have hrt := rightB_out hr
  have hrg := hrt.rg h
  have hef := hrg.ef i hi
  have e12 : (slB X i).f12 = X.f12 := (slA_o X i).2.2.2.1
  have hi12 : i < X.f12.n := by have := hrg.ln; omega
  have hz := h.o12 i hi12
  have hs : sumZ X.f12.z X.f12.n ≤ 144115188075855872 := by
    have := hrt.cb
    unfold togB at this
    exact of_decide_eq_true this
  obtain ⟨F, eF⟩ : ∃ F, effS X i = F := ⟨_, rfl⟩
  have hF : 0 ≤ F ∧ F ≤ 32000000000 := by rw [← eF]; exact hef
  have hle : lesV (X.f12.z i) (F / 64) ≤ X.f12.z i ∧ 0 ≤ lesV (X.f12.z i) (F / 64) := by
    unfold lesV
    split <;> omega
  have hc : (slC X i).f12.z = fun j => if j = i then lesV (X.f12.z i) (F / 64) else X.f12.z j := by
    unfold slC
    rw [eF]
    show (fun j => if j = i then lesV ((slB X i).f12.z i) (F / 64) else (slB X i).f12.z j) = _
    rw [e12]
  have hcs : sumZ (slC X i).f12.z X.f12.n ≤ sumZ X.f12.z X.f12.n := by
    rw [hc, sumZ_upd, if_pos hi12]
    omega
  have hc0 : ∀ j, j < X.f12.n → 0 ≤ (slC X i).f12.z j := fun j hj => by
    rw [hc]
    show 0 ≤ (if j = i then lesV (X.f12.z i) (F / 64) else X.f12.z j)
    split
    · exact hle.2
    · exact (h.o12 j hj).1
  obtain ⟨p, ep, hpn⟩ := pr_in hp
  have hp12 : p < X.f12.n := by have := hrg.ln; omega
  have hzp : (slC X i).f12.z p ≤ sumZ (slC X i).f12.z X.f12.n := by
    have h1 := (sumZ_all hc0 (p + 1) (by omega)).2
    have h2 := (sumZ_all hc0 p (by omega)).1
    have h3 : sumZ (slC X i).f12.z (p + 1) = sumZ (slC X i).f12.z p + (slC X i).f12.z p := rfl
    omega
  have hzp0 := hc0 p hp12
  have hw : w64 ((slC X i).f12.z p + F / 512) = (slC X i).f12.z p + F / 512 := w64_in (by omega) (by omega)
  have hss : (slS X i).f12.z = fun j => if j = p then (slC X i).f12.z p + F / 512 else (slC X i).f12.z j := by
    rw [sloS_S h hrg.sl i hp, ep]
    show (fun j => if j = p then w64 ((slC X i).f12.z p + effS X i / 512) else (slC X i).f12.z j) = _
    rw [eF, hw]
  have ht : sumZ (slS X i).f12.z X.f12.n = sumZ (slC X i).f12.z X.f12.n + F / 512 := by
    rw [hss, sumZ_upd, if_pos hp12]
    omega
  refine ⟨by omega, by omega, fun j hj => ?_⟩
  rw [hss]
  show 0 ≤ (if j = p then (slC X i).f12.z p + F / 512 else (slC X i).f12.z j)
  split
  · omega
  · exact hc0 j hj

theorem slS_11 (X : VState) (i : Nat) : (slS X i).f11 = (slA X i).f11 ∧ (slS X i).f2 = X.f2 := by
  unfold slS
  split
  · exact ⟨rfl, (slA_o X i).1⟩
  · exact ⟨rfl, (slA_o X i).1⟩

theorem slS_v (X : VState) (i : Nat) : ((slS X i).f11.z i).f3 = true ∧ ((slS X i).f11.z i).f6 = ((lvS X i).f11.z i).f6 := by
  rw [(slS_11 X i).1]
  unfold slA
  rw [valS_at]
  exact ⟨rfl, rfl⟩

theorem slS_left {X : VState} (h : OkState X) (hr : rightB X = true) (i : Nat) (hi : i < X.f11.n) : ¬ ((slS X i).f11.z i).f6 = far ∧ lvS (slS X i) i = slS X i := by
  have hn : ¬ ((slS X i).f11.z i).f6 = far := by
    rw [(slS_v X i).2]
    by_cases hf : (X.f11.z i).f6 = far
    · obtain ⟨_, _, q3, q4, _⟩ := queue_step h hr i hi hf
      rw [q4]
      exact q3
    · rw [show lvS X i = X from if_neg hf]
      exact hf
  exact ⟨hn, if_neg hn⟩

end Go.Proofs.YtlplmdhlelgihaaGreatDoor
