/-
  What an exit leaves, in plain numbers.
-/

import Derived.Test.YtmapeodhcllimaaDoorJnJ
import Derived.Test.YtmapeodhcllimaaDoorQL
import Derived.Test.YtmapeodhcllimaaDoorQM
import Derived.Test.YtmapeodhcllimaaDoorQF
import Derived.Test.YtmapeodhcllimaaDoorQC
namespace Go.Proofs.YtmapeodhcllimaaDoor

open Go.RowKit

set_option linter.unusedVariables false

set_option linter.unusedSimpArgs false

set_option maxRecDepth 20000

/-- What an exit that was taken leaves, in plain numbers. -/
structure JlF (x X : VState) (s : VSignedExit) (k : Nat) : Prop where
  who : s.f0.f1 = (k : Int)
  hk : k < X.f11.n
  rt : rightB x = true
  ask : exK x s = 1
  lx : AsM x.f11.n x
  lX : AsM x.f11.n X
  ok : OkState X
  ln : Lns X
  again : exE X s (fun _ => 0) 0 = 36 ∧ exK X s = 0
  bad : exE x s (exQ x s) 1 = 25
  ge : x.f2 / 4 + 3 ≤ (X.f11.z k).f6
  act : actB (X.f11.z k) (x.f2 / 4) = true

theorem jl_facts {x X : VState} {s : VSignedExit} (hx : OkState x) (hl : Lns x) (hs : OkSignedExit s) (he : exE x s (fun _ => 0) 0 = 0) (hX : SimF (exS x s (fun _ => 0) 0) X) : ∃ k, JlF x X s k := by
  have hP : exP x s.f0 = 0 := by
    by_cases h : exP x s.f0 = 0
    · exact h
    · unfold exE at he; rw [if_neg h] at he; exact absurd he h
  have hQ : lqE x s.f0.f1 = 0 := by unfold exE at he; rw [if_pos hP, if_pos (gdB_zero _ _)] at he; exact he
  have hR : rightB x = true := by
    by_cases h : rightB x = true
    · exact h
    · unfold exP at hP; rw [if_neg h] at hP; omega
  have hC : exC x s.f0 = 0 := by unfold exP at hP; rw [if_pos hR] at hP; exact hP
  obtain ⟨k, ek, hk, hact, hf⟩ := exC_cases x s.f0 hs.1.2.1 hC
  have hS : exS x s (fun _ => 0) 0 = lvS x k := by
    unfold exS
    rw [if_pos he]
    unfold lqS
    rw [if_pos hQ, ek, Int.toNat_natCast]
  have hRl : rightB (lvS x k) = true := by
    by_cases h : rightB (lvS x k) = true
    · exact h
    · unfold lqE at hQ
      rw [if_pos ⟨hR, by rw [ek]; omega⟩, ek, Int.toNat_natCast, if_neg h] at hQ
      omega
  rw [hS] at hX
  obtain ⟨q1, q2, q3, q4, _⟩ := queue_step hx hR k hk hf
  have ho := lvS_o x k
  have hXn : X.f11.n = x.f11.n := hX.l11.trans ho.2.2.1
  have hXz : X.f11.z = (lvS x k).f11.z := hX.z11
  have hlz : (lvS x k).f11.z k = lvV (lvX x) (x.f11.z k) := by
    have : lvS x k = valS x k (lvV (lvX x)) := if_pos hf
    rw [this, valS_at]
  have h6 : (X.f11.z k).f6 = lvX x := by rw [hXz, hlz]; rfl
  have h5 : (X.f11.z k).f5 = (x.f11.z k).f5 := by rw [hXz, hlz]; rfl
  have hae : (x.f11.z k).f5 ≤ x.f2 / 4 := by
    unfold actB at hact
    simp only [Bool.and_eq_true, decide_eq_true_eq] at hact
    exact hact.1
  have hA : actB (X.f11.z k) (x.f2 / 4) = true := by
    unfold actB
    simp only [Bool.and_eq_true, decide_eq_true_eq]
    exact ⟨by rw [h5]; exact hae, by rw [h6]; omega⟩
  have hXf2 : X.f2 = x.f2 := hX.e2.trans ho.1
  have hPX : exP X s.f0 = 36 := by
    unfold exP exC
    rw [rightF hX, hRl, if_pos rfl, ek, hXn, if_pos (by omega), Int.toNat_natCast, hXf2, if_pos hA, if_neg (by rw [h6]; exact q3)]
  have hRX : RtO X := rightB_out (by rw [rightF hX]; exact hRl)
  refine ⟨k, ek, by rw [hXn]; exact hk, hR, ?_, (rightB_out hR).asM, ?_, ?_, ?_, ⟨?_, ?_⟩, ?_, by rw [h6]; exact q1, hA⟩
  · unfold exK; rw [if_pos hP]
  · have := hRX.asM
    rw [hXn] at this
    exact this
  · have := lq_all (x := x) (X := x) s.f0.f1 hx hl (.refl _)
    have e : lqS x s.f0.f1 = lvS x k := by unfold lqS; rw [if_pos hQ, ek, Int.toNat_natCast]
    rw [e] at this
    exact okF_sim hX this.2.1
  · exact right_lns (by rw [rightF hX]; exact hRl)
  · unfold exE; rw [if_neg (by rw [hPX]; omega), hPX]
  · unfold exK; rw [if_neg (by rw [hPX]; omega)]
  · unfold exE
    rw [if_pos hP, gd_self]
    rfl

end Go.Proofs.YtmapeodhcllimaaDoor
