/-
  The bytes of states: in range, and which differ.
-/

import Derived.Test.YtehpfemlcjcabaaStK
namespace Go.Proofs.Ytehpfemlcjcabaa

open Go.RowKit

set_option linter.unusedVariables false

set_option linter.unusedSimpArgs false

set_option maxRecDepth 20000

theorem ct7_bnd : ∀ (l : List (Nat × (Nat → Int))), (∀ p ∈ l, ∀ q, q < p.1 → 0 ≤ p.2 q ∧ p.2 q < 256) → ∀ q, 0 ≤ ct7 l q ∧ ct7 l q < 256
  | [], _, q => s256
  | p :: r, h, q => by
    show 0 ≤ (if q < p.1 then p.2 q else ct7 r (q - p.1)) ∧ (if q < p.1 then p.2 q else ct7 r (q - p.1)) < 256
    by_cases hq : q < p.1
    · rw [if_pos hq]
      exact h p (by simp) q hq
    · rw [if_neg hq]
      exact ct7_bnd r (fun x hx => h x (by simp [hx])) _

theorem bndFork {x : VFork} (h : OkFork x) (q : Nat) : 0 ≤ ct7 (eFork x) q ∧ ct7 (eFork x) q < 256 := ct7_bnd _ (fun p hp => by
  simp only [eFork, List.mem_cons, List.not_mem_nil, or_false] at hp
  rcases hp with rfl | rfl | rfl
  · exact h.1
  · exact h.2.1
  · exact fun q _ => nmB_bd _ q) q

theorem bndHeader {x : VHeader} (h : OkHeader x) (q : Nat) : 0 ≤ ct7 (eHeader x) q ∧ ct7 (eHeader x) q < 256 := ct7_bnd _ (fun p hp => by
  simp only [eHeader, List.mem_cons, List.not_mem_nil, or_false] at hp
  rcases hp with rfl | rfl | rfl | rfl | rfl
  · exact fun q _ => nmB_bd _ q
  · exact fun q _ => nmB_bd _ q
  · exact h.2.2.1
  · exact h.2.2.2.1
  · exact h.2.2.2.2) q

theorem bndEth1 {x : VEth1} (h : OkEth1 x) (q : Nat) : 0 ≤ ct7 (eEth1 x) q ∧ ct7 (eEth1 x) q < 256 := ct7_bnd _ (fun p hp => by
  simp only [eEth1, List.mem_cons, List.not_mem_nil, or_false] at hp
  rcases hp with rfl | rfl | rfl
  · exact h.1
  · exact fun q _ => nmB_bd _ q
  · exact h.2.2) q

theorem bndValidator {x : VValidator} (h : OkValidator x) (q : Nat) : 0 ≤ ct7 (eValidator x) q ∧ ct7 (eValidator x) q < 256 := ct7_bnd _ (fun p hp => by
  simp only [eValidator, List.mem_cons, List.not_mem_nil, or_false] at hp
  rcases hp with rfl | rfl | rfl | rfl | rfl | rfl | rfl | rfl
  · exact h.1
  · exact h.2.1
  · exact fun q _ => nmB_bd _ q
  · exact fun q _ => bbB_bd _ q
  · exact fun q _ => nmB_bd _ q
  · exact fun q _ => nmB_bd _ q
  · exact fun q _ => nmB_bd _ q
  · exact fun q _ => nmB_bd _ q) q

theorem bndCheckpoint {x : VCheckpoint} (h : OkCheckpoint x) (q : Nat) : 0 ≤ ct7 (eCheckpoint x) q ∧ ct7 (eCheckpoint x) q < 256 := ct7_bnd _ (fun p hp => by
  simp only [eCheckpoint, List.mem_cons, List.not_mem_nil, or_false] at hp
  rcases hp with rfl | rfl
  · exact fun q _ => nmB_bd _ q
  · exact h.2) q

theorem bndCommittee {x : VCommittee} (h : OkCommittee x) (q : Nat) : 0 ≤ ct7 (eCommittee x) q ∧ ct7 (eCommittee x) q < 256 := ct7_bnd _ (fun p hp => by
  simp only [eCommittee, List.mem_cons, List.not_mem_nil, or_false] at hp
  rcases hp with rfl | rfl
  · exact fun q _ => ct7_bnd _ (fun p hp => by
      simp only [eKeys, List.mem_cons, List.not_mem_nil, or_false] at hp
      subst hp
      exact h.1) q
  · exact h.2) q

theorem pF_bd {x : VState} (h : OkState x) (r : Nat) (hr : r < 24) (q : Nat) (hq : q < pL x r) : 0 ≤ pF x r q ∧ pF x r q < 256 := by
  rcases r with _ | _ | _ | _ | _ | _ | _ | _ | _ | _ | _ | _ | _ | _ | _ | _ | _ | _ | _ | _ | _ | _ | _ | _ | r
  · exact nmB_bd _ q
  · exact h.o1 q hq
  · exact nmB_bd _ q
  · exact bndFork h.o3 q
  · exact bndHeader h.o4 q
  · exact h.o5 q hq
  · exact h.o6 q hq
  · exact h.o7 q hq
  · exact bndEth1 h.o8 q
  · exact bndEth1 (h.o9 (q / 72) (Nat.div_lt_of_lt_mul hq)) (q % 72)
  · exact nmB_bd _ q
  · exact bndValidator (h.o11 (q / 121) (Nat.div_lt_of_lt_mul hq)) (q % 121)
  · exact nmB_bd _ (q % 8)
  · exact h.o13 q hq
  · exact nmB_bd _ (q % 8)
  · exact h.o15 q hq
  · exact h.o16 q hq
  · exact ⟨Int.natCast_nonneg _, Int.ofNat_lt.2 (Z.byt_lt _ _ _)⟩
  · exact bndCheckpoint h.o18 q
  · exact bndCheckpoint h.o19 q
  · exact bndCheckpoint h.o20 q
  · exact nmB_bd _ (q % 8)
  · exact bndCommittee h.o22 q
  · exact bndCommittee h.o23 q
  · omega

/-- The bytes of a state. -/
def mS (x : VState) (j : Nat) : Int := (Z.layC zS (pF x) (pL x) 24).getD j 0

theorem mS_len (x : VState) : (Z.layC zS (pF x) (pL x) 24).length = tL x := Z.layC_len zS (pF x) (pL x) 24 (fitsS x)

theorem mS_bl (x : VState) : Z.iv (Z.layC zS (pF x) (pL x) 24) = bl (mS x) (tL x) := by
  rw [Z.iv_bl, mS_len]
  rfl

end Go.Proofs.Ytehpfemlcjcabaa
