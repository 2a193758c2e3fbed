/-
  What the reference's offset answers.
-/
import Derived.Test.YtppjpodlnelomabSzQ
namespace Go.Proofs.Ytppjpodlnelomab
open Go.RowKit
set_option linter.unusedVariables false
set_option linter.unusedSimpArgs false

theorem or_i64_nat (a b : Nat) (ha : a < 4294967296) (hb : b < 4294967296) : bits .or .i64 (a : Int) (b : Int) = ((a ||| b : Nat) : Int) := by
  have hx : a ||| b < 2 ^ 32 := Nat.or_lt_two_pow (by omega) (by omega)
  have h1 : (BitVec.ofInt 64 (a : Int)).toNat = a := by
    rw [BitVec.ofInt_natCast, BitVec.toNat_ofNat]; exact Nat.mod_eq_of_lt (by omega)
  have h2 : (BitVec.ofInt 64 (b : Int)).toNat = b := by
    rw [BitVec.ofInt_natCast, BitVec.toNat_ofNat]; exact Nat.mod_eq_of_lt (by omega)
  show IntKind.i64.wrap ((BitVec.ofInt 64 (a : Int) ||| BitVec.ofInt 64 (b : Int)).toNat : Int) = _
  rw [BitVec.toNat_or, h1, h2, IntKind.wrap_i64]
  omega
theorem or_add_i64 (k : Nat) (A z P : Int) (hP : P = 2 ^ k) (hA : 0 ≤ A) (hA' : A < P) (hz : 0 ≤ z) (h : A + z * P < 4294967296) : bits .or .i64 A (z * P) = A + z * P := by
  obtain ⟨A, rfl⟩ := Int.eq_ofNat_of_zero_le hA
  obtain ⟨z, rfl⟩ := Int.eq_ofNat_of_zero_le hz
  have ep : ((2 ^ k : Nat) : Int) = (2 : Int) ^ k := by simp
  have e : (z : Int) * P = ((2 ^ k * z : Nat) : Int) := by rw [Int.natCast_mul, ep, hP, Int.mul_comm]
  rw [hP, ← ep] at hA'
  rw [e] at h ⊢
  rw [or_i64_nat _ _ (by omega) (by omega), Nat.or_comm, ← Nat.two_pow_add_eq_or_of_lt (by omega) z]
  omega

end Go.Proofs.Ytppjpodlnelomab
