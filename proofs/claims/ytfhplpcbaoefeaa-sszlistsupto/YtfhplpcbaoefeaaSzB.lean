/-
  What word.Read and ssz.readOffset answer.
-/
import Derived.Test.YtfhplpcbaoefeaaSzA
import Derived.Test.YtfhplpcbaoefeaaNum
import Derived.Laws.CopyRow
namespace Go.Proofs.Ytfhplpcbaoefeaa
open Go.RowKit
set_option linter.unusedVariables false
set_option linter.unusedSimpArgs false

theorem or_zero (z : Int) (h0 : 0 ≤ z) (h1 : z < 18446744073709551616) : bits .or .u64 0 z = z := by
  obtain ⟨z, rfl⟩ := Int.eq_ofNat_of_zero_le h0
  have h := bits_or_u64_nat 0 z (by omega) (by omega)
  rw [Nat.zero_or] at h
  exact h
theorem or_add (k : Nat) (A z P : Int) (hP : P = 2 ^ k) (hA : 0 ≤ A) (hA' : A < P) (hz : 0 ≤ z) (h : A + z * P < 18446744073709551616) : bits .or .u64 A (z * P) = A + z * P := by
  obtain ⟨A, rfl⟩ := Int.eq_ofNat_of_zero_le hA
  obtain ⟨z, rfl⟩ := Int.eq_ofNat_of_zero_le hz
  have ep : ((2 ^ k : Nat) : Int) = (2 : Int) ^ k := by simp
  have e : (z : Int) * P = ((2 ^ k * z : Nat) : Int) := by rw [Int.natCast_mul, ep, hP, Int.mul_comm]
  rw [hP, ← ep] at hA'
  rw [e] at h ⊢
  rw [or_nat' k z A (by omega) (by omega)]
  omega
def num8 (z0 z1 z2 z3 z4 z5 z6 z7 : Int) : Int := z0 + z1 * 256 + z2 * 65536 + z3 * 16777216 + z4 * 4294967296 + z5 * 1099511627776 + z6 * 281474976710656 + z7 * 72057594037927936
theorem ret2 {k l : IntKind} {a b c d : Int} (h1 : a = c) (h2 : b = d) : Ending.returned (.tuple #[.int k a, .int l b]) = .returned (.tuple #[.int k c, .int l d]) := by rw [h1, h2]

set_option maxHeartbeats 1000000 in
theorem read8 (b off cap : Nat) (z0 z1 z2 z3 z4 z5 z6 z7 : Int) (w : World) (c0 : w.cell? ⟨b, off, none⟩ = some (.int .u8 z0)) (p0 : 0 ≤ z0) (q0 : z0 ≤ 255) (c1 : w.cell? ⟨b, off + 1, none⟩ = some (.int .u8 z1)) (p1 : 0 ≤ z1) (q1 : z1 ≤ 255) (c2 : w.cell? ⟨b, off + 2, none⟩ = some (.int .u8 z2)) (p2 : 0 ≤ z2) (q2 : z2 ≤ 255) (c3 : w.cell? ⟨b, off + 3, none⟩ = some (.int .u8 z3)) (p3 : 0 ≤ z3) (q3 : z3 ≤ 255) (c4 : w.cell? ⟨b, off + 4, none⟩ = some (.int .u8 z4)) (p4 : 0 ≤ z4) (q4 : z4 ≤ 255) (c5 : w.cell? ⟨b, off + 5, none⟩ = some (.int .u8 z5)) (p5 : 0 ≤ z5) (q5 : z5 ≤ 255) (c6 : w.cell? ⟨b, off + 6, none⟩ = some (.int .u8 z6)) (p6 : 0 ≤ z6) (q6 : z6 ≤ 255) (c7 : w.cell? ⟨b, off + 7, none⟩ = some (.int .u8 z7)) (p7 : 0 ≤ z7) (q7 : z7 ≤ 255) :
    Calls Try.prog 28 #[.slice (some ⟨b, off, none⟩) 8 cap] w fun e w' => e = .returned (.tuple #[.int .u64 (num8 z0 z1 z2 z3 z4 z5 z6 z7), .int .i64 0]) ∧ w' = w := by
  have o0 : bits .or .u64 0 z0 = z0 := or_zero z0 p0 (by omega)
  obtain ⟨A1, e1⟩ : ∃ A, z0 + z1 * 256 = A := ⟨_, rfl⟩
  have o1 : bits .or .u64 z0 (z1 * 256) = A1 := (or_add 8 z0 z1 256 (by decide) (by omega) (by omega) (by omega) (by omega)).trans e1
  obtain ⟨A2, e2⟩ : ∃ A, A1 + z2 * 65536 = A := ⟨_, rfl⟩
  have o2 : bits .or .u64 A1 (z2 * 65536) = A2 := (or_add 16 A1 z2 65536 (by decide) (by omega) (by omega) (by omega) (by omega)).trans e2
  obtain ⟨A3, e3⟩ : ∃ A, A2 + z3 * 16777216 = A := ⟨_, rfl⟩
  have o3 : bits .or .u64 A2 (z3 * 16777216) = A3 := (or_add 24 A2 z3 16777216 (by decide) (by omega) (by omega) (by omega) (by omega)).trans e3
  obtain ⟨A4, e4⟩ : ∃ A, A3 + z4 * 4294967296 = A := ⟨_, rfl⟩
  have o4 : bits .or .u64 A3 (z4 * 4294967296) = A4 := (or_add 32 A3 z4 4294967296 (by decide) (by omega) (by omega) (by omega) (by omega)).trans e4
  obtain ⟨A5, e5⟩ : ∃ A, A4 + z5 * 1099511627776 = A := ⟨_, rfl⟩
  have o5 : bits .or .u64 A4 (z5 * 1099511627776) = A5 := (or_add 40 A4 z5 1099511627776 (by decide) (by omega) (by omega) (by omega) (by omega)).trans e5
  obtain ⟨A6, e6⟩ : ∃ A, A5 + z6 * 281474976710656 = A := ⟨_, rfl⟩
  have o6 : bits .or .u64 A5 (z6 * 281474976710656) = A6 := (or_add 48 A5 z6 281474976710656 (by decide) (by omega) (by omega) (by omega) (by omega)).trans e6
  obtain ⟨A7, e7⟩ : ∃ A, A6 + z7 * 72057594037927936 = A := ⟨_, rfl⟩
  have o7 : bits .or .u64 A6 (z7 * 72057594037927936) = A7 := (or_add 56 A6 z7 72057594037927936 (by decide) (by omega) (by omega) (by omega) (by omega)).trans e7
  have en : A7 = num8 z0 z1 z2 z3 z4 z5 z6 z7 := by unfold num8; omega
  have EN := hid en
  clear en e1 e2 e3 e4 e5 e6 e7
  go_enter Try.func28, Try.ntmps28
  go_wp2
  go_rounds 9
  go_ret2
  exact ⟨ret2 EN.out rfl, rfl⟩


/-- The number that four bytes from place k on are, the lowest first. -/
def o4 (m : Nat → Int) (k : Nat) : Int := m k + m (k + 1) * 256 + m (k + 2) * 65536 + m (k + 3) * 16777216
theorem o4_bd (m : Nat → Int) (k : Nat) (h : ∀ j, k ≤ j → j < k + 4 → 0 ≤ m j ∧ m j < 256) : 0 ≤ o4 m k ∧ o4 m k < 4294967296 := by
  have h0 := h k (by omega) (by omega)
  have h1 := h (k + 1) (by omega) (by omega)
  have h2 := h (k + 2) (by omega) (by omega)
  have h3 := h (k + 3) (by omega) (by omega)
  unfold o4
  omega
def cp22 (ty : TypeId) (x y : Value) : Sem Value := Builtin.copy_ #[22, 22] ty #[x, y]
theorem cp22_eq (ty : TypeId) (x y : Value) : Builtin.copy_ #[22, 22] ty #[x, y] = cp22 ty x y := rfl

attribute [local go_sem ↓] cp22_eq

set_option maxHeartbeats 1000000 in
theorem readoff_any (m : Nat → Int) (b off len cap : Nat) (w : World) (hc : ∀ j, j < 4 → w.cell? ⟨b, off + j, none⟩ = some (.int .u8 (m j))) (hm : ∀ j, j < 4 → 0 ≤ m j ∧ m j < 256) (hl : 4 ≤ len) (hb : b < w.heap.size) :
    Calls Try.prog 14 #[.slice (some ⟨b, off, none⟩) len cap] w fun e w' => e = .returned (.int .u64 (o4 m 0)) ∧ Below w.heap.size w w' := by
  obtain ⟨W2, hW2⟩ : ∃ W, (w.alloc (.cells #[.int .u8 0, .int .u8 0, .int .u8 0, .int .u8 0, .int .u8 0, .int .u8 0, .int .u8 0, .int .u8 0] 54)).setRow w.heap.size #[.int .u8 (m 0), .int .u8 (m 1), .int .u8 (m 2), .int .u8 (m 3), .int .u8 0, .int .u8 0, .int .u8 0, .int .u8 0] = W := ⟨_, rfl⟩
  have hcp : ∀ ty, (cp22 ty (.slice (some ⟨w.heap.size, 0, none⟩) 4 8) (.slice (some ⟨b, off, none⟩) len cap)).run Try.prog (w.alloc (.cells #[.int .u8 0, .int .u8 0, .int .u8 0, .int .u8 0, .int .u8 0, .int .u8 0, .int .u8 0, .int .u8 0] 54)) = .ok (.int .i64 4) W2 := by
    intro ty
    have h := run_copy_row (P := Try.prog) (w.alloc (.cells #[.int .u8 0, .int .u8 0, .int .u8 0, .int .u8 0, .int .u8 0, .int .u8 0, .int .u8 0, .int .u8 0] 54)) 22 22 ty 5 w.heap.size 0 4 8 ⟨b, off, none⟩ len cap _ 54 [.int .u8 (m 0), .int .u8 (m 1), .int .u8 (m 2), .int .u8 (m 3)] Try.underlying22 (by kernel_rfl) (heap_new rfl) (by show 4 = Nat.min len 4; exact (Nat.min_eq_right hl).symm)
      (fun j v hj => by
        have hlt := (List.getElem?_eq_some_iff.1 hj).1
        have hj4 : j < 4 := hlt
        rw [addr_add, below_cell ((Below.refl w.heap.size w).alloc (Nat.le_refl _) _) hb, hc j hj4]
        rcases (by omega : j = 0 ∨ j = 1 ∨ j = 2 ∨ j = 3) with rfl | rfl | rfl | rfl <;> exact hj)
      (by show 4 ≤ 8; omega) (fun v hv => by simp at hv; rcases hv with rfl | rfl | rfl | rfl <;> rfl)
    rw [← hW2]
    exact h
  have r2 : W2.heap[w.heap.size]? = some (.cells #[.int .u8 (m 0), .int .u8 (m 1), .int .u8 (m 2), .int .u8 (m 3), .int .u8 0, .int .u8 0, .int .u8 0, .int .u8 0] 54) := by rw [← hW2]; exact setRow_at (heap_new rfl)
  have hB2 : Below w.heap.size w W2 := by rw [← hW2]; exact below_row ((Below.refl _ _).alloc (Nat.le_refl _) _) (Nat.le_refl _) _
  have m0 := hm 0 (by omega)
  have m1 := hm 1 (by omega)
  have m2 := hm 2 (by omega)
  have m3 := hm 3 (by omega)
  have hrd := read8 w.heap.size 0 8 (m 0) (m 1) (m 2) (m 3) 0 0 0 0 W2 (row_cell r2 0) m0.1 (by omega) (row_cell r2 1) m1.1 (by omega) (row_cell r2 2) m2.1 (by omega) (row_cell r2 3) m3.1 (by omega) (row_cell r2 4) (by omega) (by omega) (row_cell r2 5) (by omega) (by omega) (row_cell r2 6) (by omega) (by omega) (row_cell r2 7) (by omega) (by omega)
  have en : num8 (m 0) (m 1) (m 2) (m 3) 0 0 0 0 = o4 m 0 := by unfold num8 o4; simp only [Nat.zero_add]; omega
  rw [en] at hrd
  obtain ⟨X, hX⟩ : ∃ X, o4 m 0 = X := ⟨_, rfl⟩
  rw [hX] at hrd
  have HRD := hid hrd
  have HB2 := hid hB2
  have HX := hid hX
  clear hc hm hW2 r2 hB2 m0 m1 m2 m3 hrd en hX hb
  go_enter Try.func14, Try.ntmps14
  go_wp2_with (go_at_call 28; refine HRD.out.mono ?_; rintro e w3 ⟨rfl, rfl⟩)
  go_ret
  exact ⟨HX.out ▸ rfl, HB2.out⟩

end Go.Proofs.Ytfhplpcbaoefeaa
