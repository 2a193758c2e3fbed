/-
  The bytes of states: in range, and which differ.
-/

import Derived.Test.YtehpfemlcjcabaaStK
namespace Go.Proofs.Ytehpfemlcjcabaa

open Go.RowKit

set_option linter.unusedVariables false

set_option linter.unusedSimpArgs false

set_option maxRecDepth 20000

theorem ct7_bnd : ∀ (l : List (Nat × (Nat → Int))), (∀ p ∈ l, ∀ q, q < p.1 → 0 ≤ p.2 q ∧ p.2 q < 256) → ∀ q, 0 ≤ ct7 l q ∧ ct7 l q < 256
  | [], _, q => s256
  | p :: r, h, q => by
    show 0 ≤ (if q < p.1 then p.2 q else ct7 r (q - p.1)) ∧ (if q < p.1 then p.2 q else ct7 r (q - p.1)) < 256
    by_cases hq : q < p.1
    · rw [if_pos hq]
      exact h p (by simp) q hq
    · rw [if_neg hq]
      exact ct7_bnd r (fun x hx => h x (by simp [hx])) _

theorem bndFork {x : VFork} (h : OkFork x) (q : Nat) : 0 ≤ ct7 (eFork x) q ∧ ct7 (eFork x) q < 256 := ct7_bnd _ (fun p hp => by
  simp only [eFork, List.mem_cons, List.not_mem_nil, or_false] at hp
  rcases hp with rfl | rfl | rfl
  · exact h.1
  · exact h.2.1
  · exact fun q _ => nmB_bd _ q) q

theorem bndHeader {x : VHeader} (h : OkHeader x) (q : Nat) : 0 ≤ ct7 (eHeader x) q ∧ ct7 (eHeader x) q < 256 := ct7_bnd _ (fun p hp => by
  simp only [eHeader, List.mem_cons, List.not_mem_nil, or_false] at hp
  rcases hp with rfl | rfl | rfl | rfl | rfl
  · exact fun q _ => nmB_bd _ q
  · exact fun q _ => nmB_bd _ q
  · exact h.2.2.1
  · exact h.2.2.2.1
  · exact h.2.2.2.2) q

theorem bndEth1 {x : VEth1} (h : OkEth1 x) (q : Nat) : 0 ≤ ct7 (eEth1 x) q ∧ ct7 (eEth1 x) q < 256 := ct7_bnd _ (fun p hp => by
  simp only [eEth1, List.mem_cons, List.not_mem_nil, or_false] at hp
  rcases hp with rfl | rfl | rfl
  · exact h.1
  · exact fun q _ => nmB_bd _ q
  · exact h.2.2) q

theorem bndValidator {x : VValidator} (h : OkValidator x) (q : Nat) : 0 ≤ ct7 (eValidator x) q ∧ ct7 (eValidator x) q < 256 := ct7_bnd _ (fun p hp => by
  simp only [eValidator, List.mem_cons, List.not_mem_nil, or_false] at hp
  rcases hp with rfl | rfl | rfl | rfl | rfl | rfl | rfl | rfl
  · exact h.1
  · exact h.2.1
  · exact fun q _ => nmB_bd _ q
  · exact fun q _ => bbB_bd _ q
  · exact fun q _ => nmB_bd _ q
  · exact fun q _ => nmB_bd _ q
  · exact fun q _ => nmB_bd _ q
  · exact fun q _ => nmB_bd _ q) q

theorem bndCheckpoint {x : VCheckpoint} (h : OkCheckpoint x) (q : Nat) : 0 ≤ ct7 (eCheckpoint x) q ∧ ct7 (eCheckpoint x) q < 256 := ct7_bnd _ (fun p hp => by
  simp only [eCheckpoint, List.mem_cons, List.not_mem_nil, or_false] at hp
  rcases hp with rfl | rfl
  · exact fun q _ => nmB_bd _ q
  · exact h.2) q

theorem bndCommittee {x : VCommittee} (h : OkCommittee x) (q : Nat) : 0 ≤ ct7 (eCommittee x) q ∧ ct7 (eCommittee x) q < 256 := ct7_bnd _ (fun p hp => by
  simp only [eCommittee, List.mem_cons, List.not_mem_nil, or_false] at hp
  rcases hp with rfl | rfl
  · exact fun q _ => ct7_bnd _ (fun p hp => by
      simp only [eKeys, List.mem_cons, List.not_mem_nil, or_false] at hp
      subst hp
      exact h.1) q
  · exact h.2) q

theorem pF_bd {x : VState} (h : OkState x) (r : Nat) (hr : r < 24) (q : Nat) (hq : q < pL x r) : 0 ≤ pF x r q ∧ pF x r q < 256 := by
  rcases r with _ | _ | _ | _ | _ | _ | _ | _ | _ | _ | _ | _ | _ | _ | _ | _ | _ | _ | _ | _ | _ | _ | _ | _ | r
  · exact nmB_bd _ q
  · exact h.o1 q hq
  · exact nmB_bd _ q
  · exact bndFork h.o3 q
  · exact bndHeader h.o4 q
  · exact h.o5 q hq
  · exact h.o6 q hq
  · exact h.o7 q hq
  · exact bndEth1 h.o8 q
  · exact bndEth1 (h.o9 (q / 72) (Nat.div_lt_of_lt_mul hq)) (q % 72)
  · exact nmB_bd _ q
  · exact bndValidator (h.o11 (q / 121) (Nat.div_lt_of_lt_mul hq)) (q % 121)
  · exact nmB_bd _ (q % 8)
  · exact h.o13 q hq
  · exact nmB_bd _ (q % 8)
  · exact h.o15 q hq
  · exact h.o16 q hq
  · exact ⟨Int.natCast_nonneg _, Int.ofNat_lt.2 (Z.byt_lt _ _ _)⟩
  · exact bndCheckpoint h.o18 q
  · exact bndCheckpoint h.o19 q
  · exact bndCheckpoint h.o20 q
  · exact nmB_bd _ (q % 8)
  · exact bndCommittee h.o22 q
  · exact bndCommittee h.o23 q
  · omega

/-- The bytes of a state. -/
def mS (x : VState) (j : Nat) : Int := (Z.layC zS (pF x) (pL x) 24).getD j 0

theorem mS_bd {x : VState} (h : OkState x) (j : Nat) : 0 ≤ mS x j ∧ mS x j < 256 := Z.layC_byte zS (pF x) (pL x) 24 (fun r hr q hq => pF_bd h r hr q hq) j

theorem mS_len (x : VState) : (Z.layC zS (pF x) (pL x) 24).length = tL x := Z.layC_len zS (pF x) (pL x) 24 (fitsS x)

theorem mS_bl (x : VState) : Z.iv (Z.layC zS (pF x) (pL x) 24) = bl (mS x) (tL x) := by
  rw [Z.iv_bl, mS_len]
  rfl

theorem mS_fix (x : VState) (ht : tL x < 4294967296) (r q : Nat) (hr : r < 24) (h0 : zS r ≠ 0) (hq : q < pL x r) : mS x (Z.hdL zS r + q) = pF x r q := by
  have := Z.layC_part zS (pF x) (pL x) 24 (fitsS x) ht r q hr hq
  unfold Z.cB at this
  rw [if_neg h0] at this
  exact this

theorem hd_lt (r q : Nat) (x : VState) (hr : r < 24) (h0 : zS r ≠ 0) (hq : q < pL x r) : Z.hdL zS r + q < tL x := by
  have h1 : tL x ≥ 2101 := by rw [tL_is]; omega
  have c : ∀ r, r < 24 → zS r ≠ 0 → ∀ q, q < pL x r → Z.hdL zS r + q < 2101 := by
    intro r hr h0 q hq
    rcases r with _ | _ | _ | _ | _ | _ | _ | _ | _ | _ | _ | _ | _ | _ | _ | _ | _ | _ | _ | _ | _ | _ | _ | _ | r
    · have : q < 8 := hq; show 0 + q < 2101; omega
    · have : q < 32 := hq; show 8 + q < 2101; omega
    · have : q < 8 := hq; show 40 + q < 2101; omega
    · have : q < 16 := hq; show 48 + q < 2101; omega
    · have : q < 112 := hq; show 64 + q < 2101; omega
    · have : q < 256 := hq; show 176 + q < 2101; omega
    · have : q < 256 := hq; show 432 + q < 2101; omega
    · exact absurd rfl h0
    · have : q < 72 := hq; show 692 + q < 2101; omega
    · exact absurd rfl h0
    · have : q < 8 := hq; show 768 + q < 2101; omega
    · exact absurd rfl h0
    · exact absurd rfl h0
    · have : q < 256 := hq; show 784 + q < 2101; omega
    · have : q < 64 := hq; show 1040 + q < 2101; omega
    · exact absurd rfl h0
    · exact absurd rfl h0
    · have : q < 1 := hq; show 1112 + q < 2101; omega
    · have : q < 40 := hq; show 1113 + q < 2101; omega
    · have : q < 40 := hq; show 1153 + q < 2101; omega
    · have : q < 40 := hq; show 1193 + q < 2101; omega
    · exact absurd rfl h0
    · have : q < 432 := hq; show 1237 + q < 2101; omega
    · have : q < 432 := hq; show 1669 + q < 2101; omega
    · omega
  have := c r hr h0 q hq
  omega

/-- Two states: one string. -/
theorem one_str {x y : VState} (hx : OkState x) (hy : OkState y) (h : (Z.strF (mS x) (tL x)).toList = (Z.strF (mS y) (tL y)).toList) : tL x = tL y ∧ ∀ j, j < tL x → mS x j = mS y j :=
  Z.strF_same (fun i _ => mS_bd hx i) (fun i _ => mS_bd hy i) h

theorem apart_fix {x y : VState} (hx : OkState x) (hy : OkState y) (tx : tL x < 4294967296) (ty : tL y < 4294967296) (r q : Nat) (hr : r < 24) (h0 : zS r ≠ 0) (hq : q < pL x r) (hq' : q < pL y r) (hne : pF x r q ≠ pF y r q) : ((Z.strF (mS x) (tL x)).toList == (Z.strF (mS y) (tL y)).toList) = false := beq_eq_false_iff_ne.2 fun e => by
  have h := (one_str hx hy e).2 _ (hd_lt r q x hr h0 hq)
  rw [mS_fix x tx r q hr h0 hq, mS_fix y ty r q hr h0 hq'] at h
  exact hne h

theorem apart_len {x y : VState} (hx : OkState x) (hy : OkState y) (h : tL x ≠ tL y) : ((Z.strF (mS x) (tL x)).toList == (Z.strF (mS y) (tL y)).toList) = false := beq_eq_false_iff_ne.2 fun e => h (one_str hx hy e).1

/-- Unlike numbers have unlike bytes. -/
theorem nmB_inj {a b : Int} (ha : 0 ≤ a ∧ a < 18446744073709551616) (hb : 0 ≤ b ∧ b < 18446744073709551616) (h : ∀ j, j < 8 → nmB a j = nmB b j) : a = b := by
  have h0 := h 0 (by omega)
  have h1 := h 1 (by omega)
  have h2 := h 2 (by omega)
  have h3 := h 3 (by omega)
  have h4 := h 4 (by omega)
  have h5 := h 5 (by omega)
  have h6 := h 6 (by omega)
  have h7 := h 7 (by omega)
  unfold nmB at h0 h1 h2 h3 h4 h5 h6 h7
  simp only [Nat.mul_zero, Nat.mul_one, Int.pow_zero, Int.ediv_one, Nat.reduceMul, Int.reducePow] at h0 h1 h2 h3 h4 h5 h6 h7
  omega

theorem nmB_ne {a b : Int} (ha : 0 ≤ a ∧ a < 18446744073709551616) (hb : 0 ≤ b ∧ b < 18446744073709551616) (h : a ≠ b) : ∃ j, j < 8 ∧ nmB a j ≠ nmB b j := by
  refine Classical.byContradiction fun hn => h (nmB_inj ha hb fun j hj => ?_)
  exact Classical.byContradiction fun hc => hn ⟨j, hj, hc⟩

theorem add_ne {a b : Int} (ha : 0 ≤ a ∧ a < 18446744073709551616) (hb : 0 < b ∧ b < 18446744073709551616) : a ≠ IntKind.u64.wrap (a + b) := by
  rw [IntKind.wrap_u64]
  omega

theorem byt4_ne (f g : Nat → Bool) (k : Nat) (hk : k < 4) (h : f k ≠ g k) : (Z.byt f 4 0 : Int) ≠ (Z.byt g 4 0 : Int) := by
  intro e
  have e' := congrArg (fun n => Nat.testBit n k) (Int.ofNat_inj.1 e)
  simp only [Z.byt_bit] at e'
  rw [decide_eq_true (show k < 8 by omega), decide_eq_true (show 8 * 0 + k < 4 by omega), Nat.mul_zero, Nat.zero_add] at e'
  exact h (by simpa using e')

end Go.Proofs.Ytehpfemlcjcabaa
