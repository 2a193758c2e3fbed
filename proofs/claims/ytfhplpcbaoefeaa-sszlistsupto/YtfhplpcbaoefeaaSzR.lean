/-
  What the reference's offset answers.
-/
import Derived.Test.YtfhplpcbaoefeaaSzQ
namespace Go.Proofs.Ytfhplpcbaoefeaa
open Go.RowKit
set_option linter.unusedVariables false
set_option linter.unusedSimpArgs false

theorem or_i64_nat (a b : Nat) (ha : a < 4294967296) (hb : b < 4294967296) : bits .or .i64 (a : Int) (b : Int) = ((a ||| b : Nat) : Int) := by
  have hx : a ||| b < 2 ^ 32 := Nat.or_lt_two_pow (by omega) (by omega)
  have h1 : (BitVec.ofInt 64 (a : Int)).toNat = a := by
    rw [BitVec.ofInt_natCast, BitVec.toNat_ofNat]; exact Nat.mod_eq_of_lt (by omega)
  have h2 : (BitVec.ofInt 64 (b : Int)).toNat = b := by
    rw [BitVec.ofInt_natCast, BitVec.toNat_ofNat]; exact Nat.mod_eq_of_lt (by omega)
  show IntKind.i64.wrap ((BitVec.ofInt 64 (a : Int) ||| BitVec.ofInt 64 (b : Int)).toNat : Int) = _
  rw [BitVec.toNat_or, h1, h2, IntKind.wrap_i64]
  omega
theorem or_add_i64 (k : Nat) (A z P : Int) (hP : P = 2 ^ k) (hA : 0 ≤ A) (hA' : A < P) (hz : 0 ≤ z) (h : A + z * P < 4294967296) : bits .or .i64 A (z * P) = A + z * P := by
  obtain ⟨A, rfl⟩ := Int.eq_ofNat_of_zero_le hA
  obtain ⟨z, rfl⟩ := Int.eq_ofNat_of_zero_le hz
  have ep : ((2 ^ k : Nat) : Int) = (2 : Int) ^ k := by simp
  have e : (z : Int) * P = ((2 ^ k * z : Nat) : Int) := by rw [Int.natCast_mul, ep, hP, Int.mul_comm]
  rw [hP, ← ep] at hA'
  rw [e] at h ⊢
  rw [or_i64_nat _ _ (by omega) (by omega), Nat.or_comm, ← Nat.two_pow_add_eq_or_of_lt (by omega) z]
  omega

set_option maxHeartbeats 1000000 in
theorem roff_any (m : Nat → Int) (b off len cap : Nat) (w : World) (hc : ∀ j, j < 4 → w.cell? ⟨b, off + j, none⟩ = some (.int .u8 (m j))) (hm : ∀ j, j < 4 → 0 ≤ m j ∧ m j < 256) (hl : 4 ≤ len) :
    Calls Try.prog 19 #[.slice (some ⟨b, off, none⟩) len cap] w fun e w' => e = .returned (.int .i64 (o4 m 0)) ∧ Below w.heap.size w w' := by
  have c0 := hc 0 (by omega)
  have c1 := hc 1 (by omega)
  have c2 := hc 2 (by omega)
  have c3 := hc 3 (by omega)
  rw [Nat.add_zero] at c0
  obtain ⟨a0, b0⟩ := hm 0 (by omega)
  obtain ⟨a1, b1⟩ := hm 1 (by omega)
  obtain ⟨a2, b2⟩ := hm 2 (by omega)
  obtain ⟨a3, b3⟩ := hm 3 (by omega)
  have en : o4 m 0 = m 0 + m 1 * 256 + m 2 * 65536 + m 3 * 16777216 := by unfold o4; simp only [Nat.zero_add]
  generalize m 0 = z0 at *
  generalize m 1 = z1 at *
  generalize m 2 = z2 at *
  generalize m 3 = z3 at *
  obtain ⟨A1, e1⟩ : ∃ A, z0 + z1 * 256 = A := ⟨_, rfl⟩
  have o1 : bits .or .i64 z0 (z1 * 256) = A1 := (or_add_i64 8 z0 z1 256 (by decide) (by omega) (by omega) (by omega) (by omega)).trans e1
  obtain ⟨A2, e2⟩ : ∃ A, A1 + z2 * 65536 = A := ⟨_, rfl⟩
  have o2 : bits .or .i64 A1 (z2 * 65536) = A2 := (or_add_i64 16 A1 z2 65536 (by decide) (by omega) (by omega) (by omega) (by omega)).trans e2
  obtain ⟨A3, e3⟩ : ∃ A, A2 + z3 * 16777216 = A := ⟨_, rfl⟩
  have o3 : bits .or .i64 A2 (z3 * 16777216) = A3 := (or_add_i64 24 A2 z3 16777216 (by decide) (by omega) (by omega) (by omega) (by omega)).trans e3
  have EN : Hid (A3 = o4 m 0) := by show A3 = o4 m 0; omega
  have l0 : (0 : Int) < (len : Int) := by omega
  have l1 : (1 : Int) < (len : Int) := by omega
  have l2 : (2 : Int) < (len : Int) := by omega
  have l3 : (3 : Int) < (len : Int) := by omega
  have l4 : 0 < len := by omega
  have l5 : 1 < len := by omega
  have l6 : 2 < len := by omega
  have l7 : 3 < len := by omega
  have x0 : IntKind.i64.wrap z0 = z0 := i64_of _ (by omega) (by omega)
  have x1 : IntKind.i64.wrap z1 = z1 := i64_of _ (by omega) (by omega)
  have x2 : IntKind.i64.wrap z2 = z2 := i64_of _ (by omega) (by omega)
  have x3 : IntKind.i64.wrap z3 = z3 := i64_of _ (by omega) (by omega)
  have y1 : IntKind.i64.wrap (z1 * 256) = z1 * 256 := i64_of _ (by omega) (by omega)
  have y2 : IntKind.i64.wrap (z2 * 65536) = z2 * 65536 := i64_of _ (by omega) (by omega)
  have y3 : IntKind.i64.wrap (z3 * 16777216) = z3 * 16777216 := i64_of _ (by omega) (by omega)
  clear hc hm en e1 e2 e3
  go_enter Try.func19, Try.ntmps19
  go_wp2
  go_region_held3 (fun w' => w'.cell? ⟨b, off, none⟩ = some (.int .u8 z0) ∧ w'.cell? ⟨b, off + 1, none⟩ = some (.int .u8 z1) ∧ w'.cell? ⟨b, off + 2, none⟩ = some (.int .u8 z2) ∧ w'.cell? ⟨b, off + 3, none⟩ = some (.int .u8 z3)) (exact ⟨c0, c1, c2, c3⟩) (fail)
  go_wp2
  go_ret
  exact ⟨EN.out ▸ rfl, ⟨rfl, rfl, rfl, Nat.le_refl _, fun _ _ => rfl⟩⟩

end Go.Proofs.Ytfhplpcbaoefeaa
