/-
  What word.Bytes, word.Read and the document's like of them answer, beside package sha.
-/

import Derived.Test.YtenhgoclfljjlaaDoorLkM
import Derived.Test.YtenhgoclfljjlaaDoorNum
import Derived.Handy

namespace Go.Proofs.YtenhgoclfljjlaaDoor

open Go.RowKit

set_option linter.unusedVariables false

set_option linter.unusedSimpArgs false

/-- The byte at place i, the lowest first. -/
def bt (n : Int) : Nat → Int
  | 0 => n % 256
  | 1 => n / 256 % 256
  | 2 => n / 65536 % 256
  | 3 => n / 16777216 % 256
  | 4 => n / 4294967296 % 256
  | 5 => n / 1099511627776 % 256
  | 6 => n / 281474976710656 % 256
  | _ => n / 72057594037927936 % 256

theorem or_zero (z : Int) (h0 : 0 ≤ z) (h1 : z < 18446744073709551616) : bits .or .u64 0 z = z := by
  obtain ⟨z, rfl⟩ := Int.eq_ofNat_of_zero_le h0
  have h := bits_or_u64_nat 0 z (by omega) (by omega)
  rw [Nat.zero_or] at h
  exact h

theorem or_add (k : Nat) (A z P : Int) (hP : P = 2 ^ k) (hA : 0 ≤ A) (hA' : A < P) (hz : 0 ≤ z) (h : A + z * P < 18446744073709551616) : bits .or .u64 A (z * P) = A + z * P := by
  obtain ⟨A, rfl⟩ := Int.eq_ofNat_of_zero_le hA
  obtain ⟨z, rfl⟩ := Int.eq_ofNat_of_zero_le hz
  have ep : ((2 ^ k : Nat) : Int) = (2 : Int) ^ k := by simp
  have e : (z : Int) * P = ((2 ^ k * z : Nat) : Int) := by rw [Int.natCast_mul, ep, hP, Int.mul_comm]
  rw [hP, ← ep] at hA'
  rw [e] at h ⊢
  rw [or_nat' k z A (by omega) (by omega)]
  omega

theorem or_up (hi l : Int) (s : Nat) (hh : 0 ≤ hi) (hl : 0 ≤ l) (hl' : l < 2 ^ s) (h : hi * 2 ^ s + l < 18446744073709551616) :
    bits .or .u64 (hi * 2 ^ s) l = hi * 2 ^ s + l := by
  obtain ⟨hi, rfl⟩ := Int.eq_ofNat_of_zero_le hh
  obtain ⟨l, rfl⟩ := Int.eq_ofNat_of_zero_le hl
  have ep : ((2 ^ s : Nat) : Int) = (2 : Int) ^ s := by simp
  have e : (hi : Int) * 2 ^ s = ((2 ^ s * hi : Nat) : Int) := by rw [Int.natCast_mul, ep, Int.mul_comm]
  rw [e] at h ⊢
  rw [← ep] at hl'
  rw [or_nat s hi l (by omega) (by omega)]
  omega

theorem or_low (A z : Int) (hA : 0 ≤ A) (hz : 0 ≤ z) (hz' : z ≤ 255) (h : A * 256 + z < 18446744073709551616) : bits .or .u64 (A * 256) z = A * 256 + z := by
  have := or_up A z 8 hA hz (by omega) (by omega)
  exact this

theorem ret2 {k l : IntKind} {a b c d : Int} (h1 : a = c) (h2 : b = d) : Ending.returned (.tuple #[.int k a, .int l b]) = .returned (.tuple #[.int k c, .int l d]) := by rw [h1, h2]

set_option maxHeartbeats 1000000 in
theorem bytesU_any (n : Int) (w : World) (h0 : 0 ≤ n) (h1 : n < 18446744073709551616) :
    Calls Tryd.prog 31 #[.int .u64 n] w fun e w' => e = .returned (.agg (vs .u8 8 (bt n))) ∧ Below w.heap.size w w' := by
  show Calls Tryd.prog 31 #[.int .u64 n] w fun e w' => e = .returned (.agg #[.int .u8 (n % 256), .int .u8 (n / 256 % 256), .int .u8 (n / 65536 % 256), .int .u8 (n / 16777216 % 256), .int .u8 (n / 4294967296 % 256), .int .u8 (n / 1099511627776 % 256), .int .u8 (n / 281474976710656 % 256), .int .u8 (n / 72057594037927936 % 256)]) ∧ Below w.heap.size w w'
  go_enter Tryd.func31, Tryd.ntmps31
  go_wp2
  go_rounds 9
  go_returns
  have e7 : n / 72057594037927936 % 256 = n / 72057594037927936 := by omega
  rw [e7]
  refine ⟨rfl, ?_⟩
  go_grown

set_option maxHeartbeats 1000000 in
theorem rBytes_any (n : Int) (w : World) (h0 : 0 ≤ n) (h1 : n < 18446744073709551616) :
    Calls Tryd.prog 34 #[.int .u64 n] w fun e w' => e = .returned (.agg (vs .u8 8 (bt n))) ∧ Below w.heap.size w w' := by
  show Calls Tryd.prog 34 #[.int .u64 n] w fun e w' => e = .returned (.agg #[.int .u8 (n % 256), .int .u8 (n / 256 % 256), .int .u8 (n / 65536 % 256), .int .u8 (n / 16777216 % 256), .int .u8 (n / 4294967296 % 256), .int .u8 (n / 1099511627776 % 256), .int .u8 (n / 281474976710656 % 256), .int .u8 (n / 72057594037927936 % 256)]) ∧ Below w.heap.size w w'
  go_enter Tryd.func34, Tryd.ntmps34
  go_wp2
  go_rounds 9
  go_returns
  have e7 : n / 72057594037927936 % 256 = n / 72057594037927936 := by omega
  rw [e7]
  refine ⟨rfl, ?_⟩
  go_grown

/-- The number of eight bytes. -/
def num8 (z0 z1 z2 z3 z4 z5 z6 z7 : Int) : Int := z0 + z1 * 256 + z2 * 65536 + z3 * 16777216 + z4 * 4294967296 + z5 * 1099511627776 + z6 * 281474976710656 + z7 * 72057594037927936

set_option maxHeartbeats 1000000 in
theorem read8 (b off cap : Nat) (z0 z1 z2 z3 z4 z5 z6 z7 : Int) (w : World) (c0 : w.cell? ⟨b, off, none⟩ = some (.int .u8 z0)) (p0 : 0 ≤ z0) (q0 : z0 ≤ 255) (c1 : w.cell? ⟨b, off + 1, none⟩ = some (.int .u8 z1)) (p1 : 0 ≤ z1) (q1 : z1 ≤ 255) (c2 : w.cell? ⟨b, off + 2, none⟩ = some (.int .u8 z2)) (p2 : 0 ≤ z2) (q2 : z2 ≤ 255) (c3 : w.cell? ⟨b, off + 3, none⟩ = some (.int .u8 z3)) (p3 : 0 ≤ z3) (q3 : z3 ≤ 255) (c4 : w.cell? ⟨b, off + 4, none⟩ = some (.int .u8 z4)) (p4 : 0 ≤ z4) (q4 : z4 ≤ 255) (c5 : w.cell? ⟨b, off + 5, none⟩ = some (.int .u8 z5)) (p5 : 0 ≤ z5) (q5 : z5 ≤ 255) (c6 : w.cell? ⟨b, off + 6, none⟩ = some (.int .u8 z6)) (p6 : 0 ≤ z6) (q6 : z6 ≤ 255) (c7 : w.cell? ⟨b, off + 7, none⟩ = some (.int .u8 z7)) (p7 : 0 ≤ z7) (q7 : z7 ≤ 255) :
    Calls Tryd.prog 62 #[.slice (some ⟨b, off, none⟩) 8 cap] w fun e w' => e = .returned (.tuple #[.int .u64 (num8 z0 z1 z2 z3 z4 z5 z6 z7), .int .i64 0]) ∧ w' = w := by
  have o0 : bits .or .u64 0 z0 = z0 := or_zero z0 p0 (by omega)
  obtain ⟨A1, e1⟩ : ∃ A, z0 + z1 * 256 = A := ⟨_, rfl⟩
  have o1 : bits .or .u64 z0 (z1 * 256) = A1 := (or_add 8 z0 z1 256 (by decide) (by omega) (by omega) (by omega) (by omega)).trans e1
  obtain ⟨A2, e2⟩ : ∃ A, A1 + z2 * 65536 = A := ⟨_, rfl⟩
  have o2 : bits .or .u64 A1 (z2 * 65536) = A2 := (or_add 16 A1 z2 65536 (by decide) (by omega) (by omega) (by omega) (by omega)).trans e2
  obtain ⟨A3, e3⟩ : ∃ A, A2 + z3 * 16777216 = A := ⟨_, rfl⟩
  have o3 : bits .or .u64 A2 (z3 * 16777216) = A3 := (or_add 24 A2 z3 16777216 (by decide) (by omega) (by omega) (by omega) (by omega)).trans e3
  obtain ⟨A4, e4⟩ : ∃ A, A3 + z4 * 4294967296 = A := ⟨_, rfl⟩
  have o4 : bits .or .u64 A3 (z4 * 4294967296) = A4 := (or_add 32 A3 z4 4294967296 (by decide) (by omega) (by omega) (by omega) (by omega)).trans e4
  obtain ⟨A5, e5⟩ : ∃ A, A4 + z5 * 1099511627776 = A := ⟨_, rfl⟩
  have o5 : bits .or .u64 A4 (z5 * 1099511627776) = A5 := (or_add 40 A4 z5 1099511627776 (by decide) (by omega) (by omega) (by omega) (by omega)).trans e5
  obtain ⟨A6, e6⟩ : ∃ A, A5 + z6 * 281474976710656 = A := ⟨_, rfl⟩
  have o6 : bits .or .u64 A5 (z6 * 281474976710656) = A6 := (or_add 48 A5 z6 281474976710656 (by decide) (by omega) (by omega) (by omega) (by omega)).trans e6
  obtain ⟨A7, e7⟩ : ∃ A, A6 + z7 * 72057594037927936 = A := ⟨_, rfl⟩
  have o7 : bits .or .u64 A6 (z7 * 72057594037927936) = A7 := (or_add 56 A6 z7 72057594037927936 (by decide) (by omega) (by omega) (by omega) (by omega)).trans e7
  have en : A7 = num8 z0 z1 z2 z3 z4 z5 z6 z7 := by unfold num8; omega
  have EN := hid en
  clear en e1 e2 e3 e4 e5 e6 e7
  go_enter Tryd.func62, Tryd.ntmps62
  go_wp2
  go_rounds 9
  go_ret2
  exact ⟨ret2 EN.out rfl, rfl⟩

set_option maxHeartbeats 1000000 in
theorem rRead8 (b off cap : Nat) (z0 z1 z2 z3 z4 z5 z6 z7 : Int) (w : World) (c0 : w.cell? ⟨b, off, none⟩ = some (.int .u8 z0)) (p0 : 0 ≤ z0) (q0 : z0 ≤ 255) (c1 : w.cell? ⟨b, off + 1, none⟩ = some (.int .u8 z1)) (p1 : 0 ≤ z1) (q1 : z1 ≤ 255) (c2 : w.cell? ⟨b, off + 2, none⟩ = some (.int .u8 z2)) (p2 : 0 ≤ z2) (q2 : z2 ≤ 255) (c3 : w.cell? ⟨b, off + 3, none⟩ = some (.int .u8 z3)) (p3 : 0 ≤ z3) (q3 : z3 ≤ 255) (c4 : w.cell? ⟨b, off + 4, none⟩ = some (.int .u8 z4)) (p4 : 0 ≤ z4) (q4 : z4 ≤ 255) (c5 : w.cell? ⟨b, off + 5, none⟩ = some (.int .u8 z5)) (p5 : 0 ≤ z5) (q5 : z5 ≤ 255) (c6 : w.cell? ⟨b, off + 6, none⟩ = some (.int .u8 z6)) (p6 : 0 ≤ z6) (q6 : z6 ≤ 255) (c7 : w.cell? ⟨b, off + 7, none⟩ = some (.int .u8 z7)) (p7 : 0 ≤ z7) (q7 : z7 ≤ 255) :
    Calls Tryd.prog 49 #[.slice (some ⟨b, off, none⟩) 8 cap] w fun e w' => e = .returned (.tuple #[.int .u64 (num8 z0 z1 z2 z3 z4 z5 z6 z7), .int .i64 0]) ∧ w' = w := by
  have o7 : bits .or .u64 0 z7 = z7 := or_zero z7 p7 (by omega)
  obtain ⟨H6, e6⟩ : ∃ H, z7 * 256 + z6 = H := ⟨_, rfl⟩
  have o6 : bits .or .u64 (z7 * 256) z6 = H6 := (or_low z7 z6 (by omega) (by omega) (by omega) (by omega)).trans e6
  obtain ⟨H5, e5⟩ : ∃ H, H6 * 256 + z5 = H := ⟨_, rfl⟩
  have o5 : bits .or .u64 (H6 * 256) z5 = H5 := (or_low H6 z5 (by omega) (by omega) (by omega) (by omega)).trans e5
  obtain ⟨H4, e4⟩ : ∃ H, H5 * 256 + z4 = H := ⟨_, rfl⟩
  have o4 : bits .or .u64 (H5 * 256) z4 = H4 := (or_low H5 z4 (by omega) (by omega) (by omega) (by omega)).trans e4
  obtain ⟨H3, e3⟩ : ∃ H, H4 * 256 + z3 = H := ⟨_, rfl⟩
  have o3 : bits .or .u64 (H4 * 256) z3 = H3 := (or_low H4 z3 (by omega) (by omega) (by omega) (by omega)).trans e3
  obtain ⟨H2, e2⟩ : ∃ H, H3 * 256 + z2 = H := ⟨_, rfl⟩
  have o2 : bits .or .u64 (H3 * 256) z2 = H2 := (or_low H3 z2 (by omega) (by omega) (by omega) (by omega)).trans e2
  obtain ⟨H1, e1⟩ : ∃ H, H2 * 256 + z1 = H := ⟨_, rfl⟩
  have o1 : bits .or .u64 (H2 * 256) z1 = H1 := (or_low H2 z1 (by omega) (by omega) (by omega) (by omega)).trans e1
  obtain ⟨H0, e0⟩ : ∃ H, H1 * 256 + z0 = H := ⟨_, rfl⟩
  have o0 : bits .or .u64 (H1 * 256) z0 = H0 := (or_low H1 z0 (by omega) (by omega) (by omega) (by omega)).trans e0
  have en : H0 = num8 z0 z1 z2 z3 z4 z5 z6 z7 := by unfold num8; omega
  have EN := hid en
  have b6 : 0 ≤ H6 ∧ H6 < 65536 := by omega
  have b5 : 0 ≤ H5 ∧ H5 < 16777216 := by omega
  have b4 : 0 ≤ H4 ∧ H4 < 4294967296 := by omega
  have b3 : 0 ≤ H3 ∧ H3 < 1099511627776 := by omega
  have b2 : 0 ≤ H2 ∧ H2 < 281474976710656 := by omega
  have b1 : 0 ≤ H1 ∧ H1 < 72057594037927936 := by omega
  clear en e0 e1 e2 e3 e4 e5 e6
  go_enter Tryd.func49, Tryd.ntmps49
  go_wp2
  go_rounds 9
  go_ret2
  exact ⟨ret2 EN.out rfl, rfl⟩

end Go.Proofs.YtenhgoclfljjlaaDoor
