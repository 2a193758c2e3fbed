/-
  What the document's Root answers: bit by bit.
-/

import Derived.Test.YtmjdofegmelgbaaLkA
import Derived.Laws.Bits64b

namespace Go.Proofs.Ytmjdofegmelgbaa

open Go.RowKit

set_option linter.unusedVariables false

set_option linter.unusedSimpArgs false

set_option maxRecDepth 20000

/-- r is the root of n. -/
def IsRut (n r : Int) : Prop := 0 ≤ r ∧ r * r ≤ n ∧ n < (r + 1) * (r + 1)

theorem rut_unique {n r s : Int} (hr : IsRut n r) (hs : IsRut n s) : r = s := by
  obtain ⟨a0, a1, a2⟩ := hr
  obtain ⟨b0, b1, b2⟩ := hs
  by_cases h1 : r < s
  · have : (r + 1) * (r + 1) ≤ s * s := Int.mul_le_mul (by omega) (by omega) (by omega) b0
    omega
  · by_cases h2 : s < r
    · have : (s + 1) * (s + 1) ≤ r * r := Int.mul_le_mul (by omega) (by omega) (by omega) a0
      omega
    · omega

/-- What stands with k bits to go. -/
def RtJ (n : Int) (k : Nat) (r : Int) : Prop := 0 ≤ r ∧ r * r ≤ n ∧ n < (r + 2 ^ k) * (r + 2 ^ k) ∧ (∃ q : Nat, r = (2 : Int) ^ k * q) ∧ r + 2 ^ k ≤ 4294967296

theorem or_bit2 (k : Nat) (r : Int) (q : Nat) (h : r = (2 : Int) ^ (k + 1) * q) (hr : r + 2 ^ (k + 1) ≤ 4294967296) : bits .or .u64 r ((2 : Int) ^ k) = r + 2 ^ k := by
  have e1 : r = ((2 ^ (k + 1) * q : Nat) : Int) := by rw [h]; simp
  have e2 : ((2 : Int) ^ k) = ((2 ^ k : Nat) : Int) := by simp
  have hp : (2 ^ (k + 1) : Nat) = 2 * 2 ^ k := by rw [Nat.pow_succ, Nat.mul_comm]
  have e3 : (2 : Int) ^ (k + 1) = ((2 ^ (k + 1) : Nat) : Int) := by simp
  have hlt : 2 ^ k < 2 ^ (k + 1) := by have : 0 < 2 ^ k := Nat.pos_of_ne_zero (by simp); omega
  rw [e3, e1] at hr
  rw [e1, e2]
  have hb := bits_or_u64_nat (2 ^ (k + 1) * q) (2 ^ k) (by omega) (by omega)
  rw [hb, ← Nat.two_pow_add_eq_or_of_lt hlt q]
  omega

theorem rtJ_up {n : Int} {k : Nat} {r : Int} (h : RtJ n (k + 1) r) (ht : (r + 2 ^ k) * (r + 2 ^ k) ≤ n) : RtJ n k (r + 2 ^ k) := by
  obtain ⟨h0, h1, h2, ⟨q, hq⟩, h3⟩ := h
  have hp : (2 : Int) ^ (k + 1) = 2 * 2 ^ k := by rw [Int.pow_succ, Int.mul_comm]
  have hpos : (0 : Int) < 2 ^ k := Int.pow_pos (by decide)
  rw [hp] at h2 h3 hq
  refine ⟨by omega, ht, ?_, ⟨2 * q + 1, ?_⟩, by omega⟩
  · rwa [show r + 2 ^ k + 2 ^ k = r + 2 * 2 ^ k by omega]
  · rw [hq, show ((2 * q + 1 : Nat) : Int) = 2 * (q : Int) + 1 by omega, Int.mul_add, Int.mul_one, Int.mul_comm 2 (2 ^ k), Int.mul_assoc]

theorem rtJ_dn {n : Int} {k : Nat} {r : Int} (h : RtJ n (k + 1) r) (ht : n < (r + 2 ^ k) * (r + 2 ^ k)) : RtJ n k r := by
  obtain ⟨h0, h1, h2, ⟨q, hq⟩, h3⟩ := h
  have hp : (2 : Int) ^ (k + 1) = 2 * 2 ^ k := by rw [Int.pow_succ, Int.mul_comm]
  have hpos : (0 : Int) < 2 ^ k := Int.pow_pos (by decide)
  rw [hp] at h2 h3 hq
  refine ⟨h0, h1, ht, ⟨2 * q, ?_⟩, by omega⟩
  rw [hq, show ((2 * q : Nat) : Int) = 2 * (q : Int) by omega, Int.mul_comm 2 (2 ^ k), Int.mul_assoc]

set_option maxHeartbeats 1000000 in
theorem rroot_any (n : Int) (w : World) (h0 : 0 ≤ n) (h1 : n < 18446744073709551616) :
    Calls Try.prog 29 #[.int .u64 n] w fun e w' => ∃ r, e = .returned (.int .u64 r) ∧ IsRut n r ∧ w' = w := by
  go_enter Try.func29, Try.ntmps29
  go_wp2
  go_loopw [3, 4] (fun v c wr => ∃ (k : Nat) (r : Int), k ≤ 32 ∧ v = .int .u64 r ∧ c = .int .i64 ((k : Int) - 1) ∧ RtJ n k r ∧ wr = w) (fun _ c _ => (intOf c + 1).toNat)
  case atStart => exact ⟨32, 0, by omega, rfl, rfl, ⟨by omega, by omega, by omega, ⟨0, by simp⟩, by omega⟩, rfl⟩
  case round =>
    obtain ⟨k, r, hk, rfl, rfl, hr, rfl⟩ := hrel
    cases k with
    | zero =>
      have hz := hr
      have HR := hid hr
      clear hr hz
      have c0 : ¬ (0 : Int) ≤ ((0 : Nat) : Int) - 1 := by omega
      go_wp2
      go_ret
      obtain ⟨a0, a1, a2, _, _⟩ := HR.out
      exact ⟨r, rfl, ⟨a0, a1, a2⟩, rfl⟩
    | succ k =>
      have ek : ((k + 1 : Nat) : Int) - 1 = (k : Int) := by omega
      rw [ek]
      obtain ⟨h0', h1', h2', ⟨q, hq⟩, h3'⟩ := hr
      have ho := or_bit2 k r q hq h3'
      have hpos : (0 : Int) < 2 ^ k := Int.pow_pos (by decide)
      have hp : (2 : Int) ^ (k + 1) = 2 * 2 ^ k := by rw [Int.pow_succ, Int.mul_comm]
      have hJ : RtJ n (k + 1) r := ⟨h0', h1', h2', ⟨q, hq⟩, h3'⟩
      have hup := fun ht => rtJ_up hJ ht
      have hdn := fun ht => rtJ_dn hJ ht
      obtain ⟨P, hP⟩ : ∃ P, (2 : Int) ^ k = P := ⟨_, rfl⟩
      rw [hp, hP] at h3'
      rw [hP] at ho hpos hup hdn
      obtain ⟨T, hT⟩ : ∃ T, r + P = T := ⟨_, rfl⟩
      rw [hT] at ho hup hdn
      have hTT : T * T < 18446744073709551616 := by
        have : T * T ≤ 4294967295 * 4294967295 := Int.mul_le_mul (by omega) (by omega) (by omega) (by omega)
        omega
      have hT0 : 0 ≤ T * T := Int.mul_nonneg (by omega) (by omega)
      obtain ⟨U, hU⟩ : ∃ U, T * T = U := ⟨_, rfl⟩
      rw [hU] at hTT hT0 hup hdn
      have k1 : (0 : Int) ≤ (k : Int) := by omega
      have k2 : (k : Int) < 32 := by omega
      have kw : IntKind.u64.wrap (k : Int) = (k : Int) := by rw [IntKind.wrap_u64]; omega
      have pw : IntKind.u64.wrap P = P := by rw [IntKind.wrap_u64]; omega
      have uw : IntKind.u64.wrap U = U := by rw [IntKind.wrap_u64]; omega
      have HUP := hid hup
      have HDN := hid hdn
      clear hup hdn hJ h1' h2' hq hp ek
      go_upto_region 6 with fail
      by_cases hle : U ≤ n
      · go_wp2
        go_roundw
        case rel => exact ⟨k, T, by omega, rfl, by go_num, HUP.out hle, trivial⟩
        case measure => simp [intOf]
      · go_wp2
        go_roundw
        case rel => exact ⟨k, r, by omega, rfl, by go_num, HDN.out (by omega), trivial⟩
        case measure => simp [intOf]

/-- There is a root. -/
theorem root_ex (n : Nat) : ∃ r : Int, IsRut n r := by
  induction n with
  | zero => exact ⟨0, by unfold IsRut; omega⟩
  | succ n ih =>
    obtain ⟨r, h0, h1, h2⟩ := ih
    by_cases h : (r + 1) * (r + 1) ≤ ((n + 1 : Nat) : Int)
    · have e : (r + 1 + 1) * (r + 1 + 1) = (r + 1) * (r + 1) + 2 * (r + 1) + 1 := by rw [Int.add_mul (r + 1) 1, Int.mul_add]; omega
      exact ⟨r + 1, by omega, h, by rw [e]; omega⟩
    · exact ⟨r, h0, by omega, by omega⟩

end Go.Proofs.Ytmjdofegmelgbaa
