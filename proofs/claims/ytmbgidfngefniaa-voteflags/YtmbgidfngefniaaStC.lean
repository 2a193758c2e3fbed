/-
  Whether a state is right: its numbers and validators.
-/

import Derived.Test.YtmbgidfngefniaaStB
namespace Go.Proofs.Ytmbgidfngefniaa

open Go.RowKit

set_option linter.unusedVariables false

set_option linter.unusedSimpArgs false

set_option maxRecDepth 20000

attribute [local go_sem ↓] lvState_eq svState_eq bdState_eq lvValidator_eq svValidator_eq

def epB (n : Int) : Bool := decide (n = 18446744073709551615) || decide (n < 2199023255552)

set_option maxHeartbeats 1000000 in
theorem ep_any (n : Int) (w : World) :
    Calls Try.prog 30 #[.int .u64 n] w fun e w' => e = .returned (.bool (epB n)) ∧ w' = w := by
  by_cases h : n = 18446744073709551615
  · have hb : (n == 18446744073709551615) = true := by simp; exact h
    have e : epB n = true := by unfold epB; simp [h]
    have E := hid e
    clear h e
    go_enter Try.func30, Try.ntmps30
    go_wp2
    go_ret
    exact ⟨by rw [E.out]; rfl, rfl⟩
  · have hb : (n == 18446744073709551615) = false := by simp; exact h
    have e : epB n = decide (n < 2199023255552) := by unfold epB; simp [h]
    have E := hid e
    clear h e
    go_enter Try.func30, Try.ntmps30
    go_wp2
    go_ret
    exact ⟨by rw [E.out]; rfl, rfl⟩

/-- The sum of numbers. -/
def sumZ (z : Nat → Int) : Nat → Int
  | 0 => 0
  | k + 1 => sumZ z k + z k

theorem sumZ_pos {z : Nat → Int} {n : Nat} (h : ∀ j, j < n → 0 ≤ z j) : ∀ k, k ≤ n → 0 ≤ sumZ z k
  | 0, _ => Int.le_refl 0
  | k + 1, hk => Int.add_nonneg (sumZ_pos h k (by omega)) (h k (by omega))

theorem sumZ_mono {z : Nat → Int} {n : Nat} (h : ∀ j, j < n → 0 ≤ z j) (k : Nat) (hk : k ≤ n) : ∀ d, k + d ≤ n → sumZ z k ≤ sumZ z (k + d)
  | 0, _ => Int.le_refl _
  | d + 1, hd => Int.le_trans (sumZ_mono h k hk d (by omega)) (by
    show sumZ z (k + d) ≤ sumZ z (k + d) + z (k + d)
    have := h (k + d) (by omega)
    omega)

def togB (z : Nat → Int) (n : Nat) (most : Int) : Bool := decide (sumZ z n ≤ most)

set_option maxHeartbeats 1000000 in
theorem tog_any (z : Nat → Int) (a : Option Addr) (n c : Nat) (most : Int) (w : World) (hn : Z.Nms .u64 w a n z) (hz : ∀ j, j < n → 0 ≤ z j ∧ z j < 18446744073709551616) (h0 : 0 ≤ most) (h1 : most < 18446744073709551616) (hnb : n ≤ 9223372036854775807) :
    Calls Try.prog 22 #[.slice a n c, .int .u64 most] w fun e w' => e = .returned (.bool (togB z n most)) ∧ w' = w := by
  have HN := hid hn
  have HZ := hid hz
  clear hn hz
  go_enter Try.func22, Try.ntmps22
  go_wp2
  go_loop [5, 11] (fun l i => ∃ (k : Nat) (L : Int), k ≤ n ∧ i = .int .i64 k ∧ l = .int .u64 L ∧ 0 ≤ L ∧ L = most - sumZ z k) (fun _ i => n - (intOf i).toNat)
  case atStart => exact ⟨0, most, by omega, rfl, rfl, h0, by simp [sumZ]⟩
  case round =>
    obtain ⟨k, L, hk, rfl, rfl, hL, eL⟩ := hrel
    have EL := hid eL
    clear eL
    have hp := sumZ_pos (fun j hj => (HZ.out j hj).1) k hk
    have hL1 : L < 18446744073709551616 := by have := EL.out; omega
    clear hp
    by_cases hlt : k < n
    · have b1 : decide (k < n) = true := by simp; omega
      have k1 : (k : Int) < (n : Int) := by omega
      have k2 : (0 : Int) ≤ (k : Int) := by omega
      rcases HN.out with h | ⟨b, off, rfl, hb1, hc⟩
      · omega
      have ck := hc k hlt
      have hzk := HZ.out k hlt
      have hs : Hid (sumZ z (k + 1) = sumZ z k + z k) := rfl
      obtain ⟨Z, eZ⟩ : ∃ Z, z k = Z := ⟨_, rfl⟩
      rw [eZ] at ck hzk hs
      obtain ⟨hz0, hz1⟩ := hzk
      clear hc eZ
      by_cases hle : Z ≤ L
      · have hng : ¬ L < Z := by omega
        go_wp2
        go_round
        case rel => exact ⟨k + 1, L - Z, by omega, by go_num, rfl, by omega, by rw [hs.out, EL.out]; omega⟩
        case measure => simp [intOf]; omega
      · have hgt : L < Z := by omega
        have F : Hid (togB z n most = false) := by
          have hm := sumZ_mono (fun j hj => (HZ.out j hj).1) (k + 1) (by omega) (n - (k + 1)) (by omega)
          rw [show k + 1 + (n - (k + 1)) = n by omega, hs.out] at hm
          have e := EL.out
          unfold togB
          exact decide_eq_false (by omega)
        go_wp2
        go_ret
        exact ⟨by rw [F.out]; rfl, rfl⟩
    · have b1 : decide (k < n) = false := by simp; omega
      have k1 : ¬ (k : Int) < (n : Int) := by omega
      have F : Hid (togB z n most = true) := by
        have e := EL.out
        rw [show k = n by omega] at e
        unfold togB
        exact decide_eq_true (by omega)
      go_wp2
      go_ret
      exact ⟨by rw [F.out]; rfl, rfl⟩

def scoB (z : Nat → Int) (n : Nat) : Bool := (List.range n).all fun i => decide (z i ≤ 1099511627776)

theorem scoB_true {z : Nat → Int} {n : Nat} (h : ∀ i, i < n → z i ≤ 1099511627776) : scoB z n = true := by
  unfold scoB
  rw [List.all_eq_true]
  intro i hi
  exact decide_eq_true (h i (List.mem_range.1 hi))

theorem scoB_false {z : Nat → Int} {n i : Nat} (hi : i < n) (h : ¬ z i ≤ 1099511627776) : scoB z n = false := by
  unfold scoB
  rw [List.all_eq_false]
  exact ⟨i, List.mem_range.2 hi, by simpa using h⟩

set_option maxHeartbeats 1000000 in
theorem sco_any (z : Nat → Int) (a : Option Addr) (n c : Nat) (w : World) (hn : Z.Nms .u64 w a n z) (hz : ∀ j, j < n → 0 ≤ z j ∧ z j < 18446744073709551616) (hnb : n ≤ 9223372036854775807) :
    Calls Try.prog 21 #[.slice a n c] w fun e w' => e = .returned (.bool (scoB z n)) ∧ w' = w := by
  have HN := hid hn
  have HZ := hid hz
  clear hn hz
  go_enter Try.func21, Try.ntmps21
  go_wp2
  go_loop [7] (fun i => ∃ (k : Nat), k ≤ n ∧ i = .int .i64 k ∧ ∀ j, j < k → z j ≤ 1099511627776) (fun i => n - (intOf i).toNat)
  case atStart => exact ⟨0, by omega, rfl, fun j hj => by omega⟩
  case round =>
    obtain ⟨k, hk, rfl, hL⟩ := hrel
    have HL := hid hL
    clear hL
    by_cases hlt : k < n
    · have b1 : decide (k < n) = true := by simp; omega
      have k1 : (k : Int) < (n : Int) := by omega
      have k2 : (0 : Int) ≤ (k : Int) := by omega
      rcases HN.out with h | ⟨b, off, rfl, hb1, hc⟩
      · omega
      have ck := hc k hlt
      by_cases hle : z k ≤ 1099511627776
      · have HE := hid hle
        have hng : ¬ 1099511627776 < z k := by omega
        clear hle
        go_wp2
        go_round
        case rel => exact ⟨k + 1, by omega, by go_num, fun j hj => by
          by_cases e : j = k
          · rw [e]; exact HE.out
          · exact HL.out j (by omega)⟩
        case measure => simp [intOf]; omega
      · have hgt : 1099511627776 < z k := by omega
        have F : Hid (scoB z n = false) := scoB_false hlt hle
        clear hle
        go_wp2
        go_ret
        exact ⟨by rw [F.out]; rfl, rfl⟩
    · have b1 : decide (k < n) = false := by simp; omega
      have k1 : ¬ (k : Int) < (n : Int) := by omega
      have F : Hid (scoB z n = true) := scoB_true fun i hi => HL.out i (by omega)
      go_wp2
      go_ret
      exact ⟨by rw [F.out]; rfl, rfl⟩

end Go.Proofs.Ytmbgidfngefniaa
