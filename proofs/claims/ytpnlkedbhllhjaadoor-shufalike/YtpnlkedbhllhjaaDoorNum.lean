/-
  Plain facts on numbers of 64 bits that the walks of package word lean on: disjoint bits, halves of products.
-/
import Derived.WalkKit
import Derived.Laws.Bits64b
namespace Go.Proofs.YtpnlkedbhllhjaaDoor
open Go.RowKit

theorem or_nat (i m y : Nat) (hy : y < 2 ^ i) (h : 2 ^ i * m + y < 18446744073709551616) :
    bits .or .u64 ((2 ^ i * m : Nat) : Int) (y : Int) = ((2 ^ i * m + y : Nat) : Int) := by
  rw [bits_or_u64_nat _ _ (by omega) (by omega), Nat.two_pow_add_eq_or_of_lt hy m]
theorem or_nat' (i m y : Nat) (hy : y < 2 ^ i) (h : 2 ^ i * m + y < 18446744073709551616) :
    bits .or .u64 (y : Int) ((2 ^ i * m : Nat) : Int) = ((2 ^ i * m + y : Nat) : Int) := by
  rw [bits_or_u64_nat _ _ (by omega) (by omega), Nat.two_pow_add_eq_or_of_lt hy m, Nat.or_comm]

theorem or_bit (x y : Int) (hx : 0 ≤ x) (hy : 0 ≤ y) (hy' : y ≤ 1) : bits .or .u64 (IntKind.u64.wrap (x * 2)) y = (x * 2) % 18446744073709551616 + y := by
  obtain ⟨x, rfl⟩ := Int.eq_ofNat_of_zero_le hx
  obtain ⟨y, rfl⟩ := Int.eq_ofNat_of_zero_le hy
  have h := or_nat 1 (x % 9223372036854775808) y (by omega) (by omega)
  have e : IntKind.u64.wrap ((x : Int) * 2) = ((2 ^ 1 * (x % 9223372036854775808) : Nat) : Int) := by rw [IntKind.wrap_u64]; omega
  rw [e, h]
  omega

theorem and_one (x : Int) (hx : 0 ≤ x) (hx' : x < 18446744073709551616) : bits .and .u64 x 1 = x % 2 := by
  obtain ⟨x, rfl⟩ := Int.eq_ofNat_of_zero_le hx
  have h := bits_and_u64_nat x 1 (by omega) (by omega)
  have e : x &&& 1 = x % 2 := Nat.and_one_is_mod x
  rw [e] at h
  have h' : bits .and .u64 (x : Int) 1 = ((x % 2 : Nat) : Int) := h
  rw [h']
  omega

theorem half_pow (b : Int) (c : Nat) : b / 2 ^ (c + 1) = b / 2 ^ c / 2 := by
  rw [Int.pow_succ]
  exact (Int.ediv_ediv_of_nonneg (Int.le_of_lt (Int.pow_pos (by decide)))).symm

theorem div_pow_bd (b : Int) (c : Nat) (hb : 0 ≤ b) (hb' : b < 18446744073709551616) : 0 ≤ b / 2 ^ c ∧ b / 2 ^ c < 18446744073709551616 := by
  have hp : (0 : Int) < 2 ^ c := Int.pow_pos (by decide)
  refine ⟨Int.ediv_nonneg hb (Int.le_of_lt hp), ?_⟩
  have : b / 2 ^ c ≤ b := Int.ediv_le_self _ hb
  omega

theorem div_pow_64 (b : Int) (hb : 0 ≤ b) (hb' : b < 18446744073709551616) : b / 2 ^ 64 = 0 := Int.ediv_eq_zero_of_lt hb (by simpa using hb')

/-- The halves of a product. -/
def hiV (a b : Int) : Int := a * b / 18446744073709551616
def loV (a b : Int) : Int := a * b % 18446744073709551616

theorem hiV_bd (a b : Int) (ha : 0 ≤ a) (ha' : a < 18446744073709551616) (hb : 0 ≤ b) (hb' : b < 18446744073709551616) : 0 ≤ hiV a b ∧ hiV a b < 18446744073709551616 := by
  have h1 : a * b ≤ 18446744073709551615 * 18446744073709551615 := Int.mul_le_mul (by omega) (by omega) hb (by omega)
  have h0 : 0 ≤ a * b := Int.mul_nonneg ha hb
  unfold hiV
  omega
theorem loV_bd (a b : Int) : 0 ≤ loV a b ∧ loV a b < 18446744073709551616 := by unfold loV; omega

/-- One round of the product by bits: what the halves of 'a * q' become where q is doubled and its next bit added. -/
theorem wide_step (a q t : Int) (ha : 0 ≤ a) (ha' : a < 18446744073709551616) (hq : 0 ≤ q) (ht : t = 0 ∨ t = 1) (hq' : 2 * q + t < 18446744073709551616) :
    0 ≤ a * q ∧ a * (2 * q + t) = 2 * (a * q) + (if t = 1 then a else 0) ∧ 2 * (a * q) + (if t = 1 then a else 0) < 18446744073709551616 * 18446744073709551616 := by
  have h0 : 0 ≤ a * q := Int.mul_nonneg ha hq
  have e : a * (2 * q + t) = 2 * (a * q) + (if t = 1 then a else 0) := by
    rw [Int.mul_add, Int.mul_left_comm]
    rcases ht with rfl | rfl <;> simp
  refine ⟨h0, e, ?_⟩
  rw [← e]
  have : a * (2 * q + t) ≤ 18446744073709551615 * 18446744073709551615 := Int.mul_le_mul (by omega) (by omega) (by omega) (by omega)
  omega

theorem wide_step0 (a q : Int) (ha : 0 ≤ a) (ha' : a < 18446744073709551616) (hq : 0 ≤ q) (hq' : 2 * q < 18446744073709551616) :
    bits .or .u64 (IntKind.u64.wrap (hiV a q * 2)) (loV a q / 9223372036854775808) = hiV a (2 * q) ∧ IntKind.u64.wrap (loV a q * 2) = loV a (2 * q) := by
  obtain ⟨h0, e, hb⟩ := wide_step a q 0 ha ha' hq (Or.inl rfl) (by omega)
  simp only [Int.add_zero] at e
  rw [if_neg (by decide)] at e hb
  have hl := loV_bd a q
  have hh := hiV_bd a q ha ha' hq (by omega)
  rw [or_bit _ _ hh.1 (by omega) (by omega), IntKind.wrap_u64]
  unfold hiV loV
  rw [e]
  omega

theorem wide_step1 (a q : Int) (ha : 0 ≤ a) (ha' : a < 18446744073709551616) (hq : 0 ≤ q) (hq' : 2 * q + 1 < 18446744073709551616) :
    IntKind.u64.wrap (IntKind.u64.wrap (loV a q * 2) + a) = loV a (2 * q + 1) ∧
    (IntKind.u64.wrap (IntKind.u64.wrap (loV a q * 2) + a) < IntKind.u64.wrap (loV a q * 2) → IntKind.u64.wrap (bits .or .u64 (IntKind.u64.wrap (hiV a q * 2)) (loV a q / 9223372036854775808) + 1) = hiV a (2 * q + 1)) ∧
    (IntKind.u64.wrap (loV a q * 2) ≤ IntKind.u64.wrap (IntKind.u64.wrap (loV a q * 2) + a) → bits .or .u64 (IntKind.u64.wrap (hiV a q * 2)) (loV a q / 9223372036854775808) = hiV a (2 * q + 1)) := by
  obtain ⟨h0, e, hb⟩ := wide_step a q 1 ha ha' hq (Or.inr rfl) (by omega)
  rw [if_pos rfl] at e hb
  have hl := loV_bd a q
  have hh := hiV_bd a q ha ha' hq (by omega)
  rw [or_bit _ _ hh.1 (by omega) (by omega), IntKind.wrap_u64, IntKind.wrap_u64, IntKind.wrap_u64]
  unfold hiV loV
  rw [e]
  refine ⟨?_, ?_, ?_⟩ <;> omega

end Go.Proofs.YtpnlkedbhllhjaaDoor
