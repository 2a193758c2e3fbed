/-
  What the reference's ReadList answers.
-/
import Derived.Test.YtnokdnjhajhbgaaBtL
namespace Go.Proofs.Ytnokdnjhajhbgaa
open Go.RowKit
set_option linter.unusedVariables false
set_option linter.unusedSimpArgs false

theorem last_bit (m : Nat → Nat) (len : Nat) (h0 : ¬ len = 0) (hm : m (len - 1) < 256) (hl : ¬ m (len - 1) = 0) : rlL m len < 8 * len ∧ tb m (rlL m len) = true ∧ ∀ i, rlL m len < i → i < 8 * len → tb m i = false := by
  have hlog := log2_lt8 hm
  unfold rlL
  refine ⟨by omega, ?_, fun i h1 h2 => ?_⟩
  · unfold tb
    rw [show (8 * (len - 1) + (m (len - 1)).log2) / 8 = len - 1 by omega, show (8 * (len - 1) + (m (len - 1)).log2) % 8 = (m (len - 1)).log2 by omega]
    exact Nat.testBit_log2 hl
  · unfold tb
    rw [show i / 8 = len - 1 by omega]
    apply Nat.testBit_lt_two_pow
    exact Nat.lt_of_lt_of_le Nat.lt_log2_self (Nat.pow_le_pow_right (by omega) (by omega))

attribute [local go_sem ↓] slB_eq

set_option maxRecDepth 20000 in
set_option maxHeartbeats 400000 in
theorem rreadl_any (m : Nat → Nat) (a : Option Addr) (len cap : Nat) (n : Int) (w : World) (h : Bys w a len cap (fun q => (m q : Int))) (hm : ∀ q, q < len → m q < 256) (hlen : len ≤ 1048576) :
    Calls Try.prog 17 #[.slice a len cap, .int .i64 n] w (Ans m (rlN m len n) (rlE m len n) w) := by
  by_cases h1 : n < 0
  · obtain ⟨e1, e2⟩ := rl_arg (m := m) (len := len) (.inl h1)
    rw [e1, e2]
    clear h hm e1 e2
    go_enter Try.func17, Try.ntmps17
    go_wp2
    go_ret2
    exact ans_none
  by_cases h2 : 4096 < n
  · obtain ⟨e1, e2⟩ := rl_arg (m := m) (len := len) (.inr h2)
    rw [e1, e2]
    clear h hm e1 e2
    go_enter Try.func17, Try.ntmps17
    go_wp2
    go_ret2
    exact ans_none
  have hn : ¬ (n < 0 ∨ 4096 < n) := by omega
  obtain ⟨N, rfl⟩ : ∃ N : Nat, n = (N : Int) := ⟨n.toNat, by omega⟩
  by_cases h3 : len = 0
  · obtain ⟨e1, e2⟩ := rl_size (m := m) hn h3
    rw [e1, e2]
    subst h3
    clear h hm e1 e2 hn
    go_enter Try.func17, Try.ntmps17
    go_wp2
    go_ret2
    exact ans_none
  have HA := hid (all_any m a len cap w h hm hlen)
  obtain ⟨b, off, rfl, hbb, ck⟩ := bys_at h (len - 1) (by omega)
  have hmq := hm (len - 1) (by omega)
  obtain ⟨q, eq⟩ : ∃ q, len - 1 = q := ⟨_, rfl⟩
  rw [eq] at ck
  have e1 : (len : Int) - 1 = (q : Int) := by omega
  have q1 : (q : Int) < (len : Int) := by omega
  have q2 : (0 : Int) ≤ (q : Int) := by omega
  have l0 : ¬ (len : Int) = 0 := by omega
  have h2' : (N : Int) ≤ 4096 := by omega
  by_cases h4 : m q = 0
  · obtain ⟨e3, e4⟩ := rl_form (m := m) hn h3 (by rw [eq]; exact h4)
    rw [e3, e4]
    rw [h4] at ck
    clear h hm e3 e4 hn hmq h3 eq
    go_enter Try.func17, Try.ntmps17
    go_wp2
    go_ret2
    exact ans_none
  obtain ⟨lb1, lb2, lb3⟩ := last_bit m len h3 hmq (by rw [eq]; exact h4)
  have LG : Hid ((N : Int) < rlL m len → rlE m len (N : Int) = 6 ∧ rlN m len (N : Int) = 0) := fun h5 => rl_long (m := m) hn h3 (by rw [eq]; exact h4) h5
  have OKK : Hid (¬ (N : Int) < rlL m len → rlE m len (N : Int) = 0 ∧ rlN m len (N : Int) = rlL m len) := fun h5 => rl_ok (m := m) hn h3 (by rw [eq]; exact h4) h5
  obtain ⟨B, eB⟩ : ∃ B, m q = B := ⟨_, rfl⟩
  rw [eB] at ck h4
  obtain ⟨L, eL⟩ : ∃ L, rlL m len = L := ⟨_, rfl⟩
  rw [eL] at lb1 lb2 lb3 LG OKK
  have b2 : ¬ (B : Int) = 0 := by omega
  have LB2 := hid lb2
  have LB3 := hid lb3
  clear h hm hn hmq h3 eq h4 eB eL lb2 lb3 h1 h2
  go_enter Try.func17, Try.ntmps17
  go_wp2_with (go_at_call 22; refine HA.out.mono ?_; rintro e w1 ⟨v, rfl, ho, hb⟩; obtain ⟨a1, C1, rfl, hC1, hC2, hbl, hbase⟩ := owns_bls ho; have HBL := hid hbl; have HB := hid hb; clear ho hb hbl hbase)
  go_loopw [6] (fun v wr => ∃ j : Nat, L + 1 ≤ j ∧ j ≤ 8 * len ∧ v = .slice a1 j C1 ∧ wr = w1) (fun v _ => sliceLen v)
  case atStart => exact ⟨8 * len, by omega, Nat.le_refl _, rfl, rfl⟩
  case round =>
    obtain ⟨j, hj1, hj2, rfl, rfl⟩ := hrel
    obtain ⟨i, ei⟩ : ∃ i, j - 1 = i := ⟨_, rfl⟩
    obtain ⟨b', off', rfl, hbb', ci⟩ := bls_at HBL.out i (by omega)
    have e2 : (j : Int) - 1 = (i : Int) := by omega
    have i1 : (i : Int) < (j : Int) := by omega
    have i2 : (0 : Int) ≤ (i : Int) := by omega
    have j2 : (j : Int) ≤ 8388608 := by omega
    have sl := fun W => slB_run W (some ⟨b', off', none⟩) j C1 i (by omega)
    by_cases hjL : i = L
    · subst hjL
      rw [LB2.out] at ci
      have HJ := hid (And.intro hj1 hj2)
      clear ei hj1 hj2
      by_cases h5 : (N : Int) < (i : Int)
      · go_wp2
        go_ret2
        show Ans m (rlN m len (N : Int)) (rlE m len (N : Int)) w _ _
        rw [(LG.out h5).1, (LG.out h5).2]
        exact ⟨none, 0, rfl, .inl ⟨rfl, rfl, rfl⟩, HB.out⟩
      · go_wp2
        go_ret2
        show Ans m (rlN m len (N : Int)) (rlE m len (N : Int)) w _ _
        rw [(OKK.out h5).1, (OKK.out h5).2]
        exact ⟨_, C1, rfl, bls_cut HBL.out (by omega), HB.out⟩
    · rw [LB3.out i (by omega) (by omega)] at ci
      have HJ := hid (And.intro hj1 (And.intro hj2 (And.intro ei hjL)))
      clear ei hj1 hj2 hjL
      go_wp2
      go_roundw
      case rel =>
        obtain ⟨hj1, hj2, ei, hjL⟩ := HJ.out
        exact ⟨i, by omega, by omega, rfl, trivial⟩
      case measure =>
        obtain ⟨hj1, hj2, ei, hjL⟩ := HJ.out
        simp [sliceLen]
        omega

end Go.Proofs.Ytnokdnjhajhbgaa
