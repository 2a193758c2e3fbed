/-
  What word.Bytes, word.Read and the document's like of them answer.
-/
import Derived.Test.YtbilbiehgagfkaaWalkJ
import Derived.Handy
import Derived.Deep.RegionHeld3
import Derived.Deep.AppendSrc
import Derived.Deep.Cut
import Derived.ChangeKeysEq
namespace Go.Proofs.Ytbilbiehgagfkaa
open Go.RowKit

/-- The byte at place i, the lowest first. -/
def bt (n : Int) : Nat → Int
  | 0 => n % 256
  | 1 => n / 256 % 256
  | 2 => n / 65536 % 256
  | 3 => n / 16777216 % 256
  | 4 => n / 4294967296 % 256
  | 5 => n / 1099511627776 % 256
  | 6 => n / 281474976710656 % 256
  | _ => n / 72057594037927936 % 256

theorem or_zero (z : Int) (h0 : 0 ≤ z) (h1 : z < 18446744073709551616) : bits .or .u64 0 z = z := by
  obtain ⟨z, rfl⟩ := Int.eq_ofNat_of_zero_le h0
  have h := bits_or_u64_nat 0 z (by omega) (by omega)
  rw [Nat.zero_or] at h
  exact h
theorem or_add (k : Nat) (A z P : Int) (hP : P = 2 ^ k) (hA : 0 ≤ A) (hA' : A < P) (hz : 0 ≤ z) (h : A + z * P < 18446744073709551616) : bits .or .u64 A (z * P) = A + z * P := by
  obtain ⟨A, rfl⟩ := Int.eq_ofNat_of_zero_le hA
  obtain ⟨z, rfl⟩ := Int.eq_ofNat_of_zero_le hz
  have ep : ((2 ^ k : Nat) : Int) = (2 : Int) ^ k := by simp
  have e : (z : Int) * P = ((2 ^ k * z : Nat) : Int) := by rw [Int.natCast_mul, ep, hP, Int.mul_comm]
  rw [hP, ← ep] at hA'
  rw [e] at h ⊢
  rw [or_nat' k z A (by omega) (by omega)]
  omega
theorem or_low (A z : Int) (hA : 0 ≤ A) (hz : 0 ≤ z) (hz' : z ≤ 255) (h : A * 256 + z < 18446744073709551616) : bits .or .u64 (A * 256) z = A * 256 + z := by
  have := or_up A z 8 hA hz (by omega) (by omega)
  exact this

set_option maxHeartbeats 1000000 in
theorem bytes_any (n : Int) (w : World) (h0 : 0 ≤ n) (h1 : n < 18446744073709551616) :
    Calls Try.prog 21 #[.int .u64 n] w fun e w' => e = .returned (.agg #[.int .u8 (bt n 0), .int .u8 (bt n 1), .int .u8 (bt n 2), .int .u8 (bt n 3), .int .u8 (bt n 4), .int .u8 (bt n 5), .int .u8 (bt n 6), .int .u8 (bt n 7)]) ∧ ∃ t, w' = (w.alloc (.cells #[.int .u8 (bt n 0), .int .u8 (bt n 1), .int .u8 (bt n 2), .int .u8 (bt n 3), .int .u8 (bt n 4), .int .u8 (bt n 5), .int .u8 (bt n 6), .int .u8 (bt n 7)] t)).alloc (.cells #[.int .u8 (bt n 0), .int .u8 (bt n 1), .int .u8 (bt n 2), .int .u8 (bt n 3), .int .u8 (bt n 4), .int .u8 (bt n 5), .int .u8 (bt n 6), .int .u8 (bt n 7)] t) := by
  show Calls Try.prog 21 #[.int .u64 n] w fun e w' => e = .returned (.agg #[.int .u8 (n % 256), .int .u8 (n / 256 % 256), .int .u8 (n / 65536 % 256), .int .u8 (n / 16777216 % 256), .int .u8 (n / 4294967296 % 256), .int .u8 (n / 1099511627776 % 256), .int .u8 (n / 281474976710656 % 256), .int .u8 (n / 72057594037927936 % 256)]) ∧ ∃ t, w' = (w.alloc (.cells #[.int .u8 (n % 256), .int .u8 (n / 256 % 256), .int .u8 (n / 65536 % 256), .int .u8 (n / 16777216 % 256), .int .u8 (n / 4294967296 % 256), .int .u8 (n / 1099511627776 % 256), .int .u8 (n / 281474976710656 % 256), .int .u8 (n / 72057594037927936 % 256)] t)).alloc (.cells #[.int .u8 (n % 256), .int .u8 (n / 256 % 256), .int .u8 (n / 65536 % 256), .int .u8 (n / 16777216 % 256), .int .u8 (n / 4294967296 % 256), .int .u8 (n / 1099511627776 % 256), .int .u8 (n / 281474976710656 % 256), .int .u8 (n / 72057594037927936 % 256)] t)
  go_enter Try.func21, Try.ntmps21
  go_wp2
  go_rounds 9
  go_returns
  have e7 : n / 72057594037927936 % 256 = n / 72057594037927936 := by omega
  rw [e7]
  exact ⟨rfl, _, rfl⟩

set_option maxHeartbeats 1000000 in
theorem rBytes_any (n : Int) (w : World) (h0 : 0 ≤ n) (h1 : n < 18446744073709551616) :
    Calls Try.prog 24 #[.int .u64 n] w fun e w' => e = .returned (.agg #[.int .u8 (bt n 0), .int .u8 (bt n 1), .int .u8 (bt n 2), .int .u8 (bt n 3), .int .u8 (bt n 4), .int .u8 (bt n 5), .int .u8 (bt n 6), .int .u8 (bt n 7)]) ∧ ∃ t, w' = (w.alloc (.cells #[.int .u8 (bt n 0), .int .u8 (bt n 1), .int .u8 (bt n 2), .int .u8 (bt n 3), .int .u8 (bt n 4), .int .u8 (bt n 5), .int .u8 (bt n 6), .int .u8 (bt n 7)] t)).alloc (.cells #[.int .u8 (bt n 0), .int .u8 (bt n 1), .int .u8 (bt n 2), .int .u8 (bt n 3), .int .u8 (bt n 4), .int .u8 (bt n 5), .int .u8 (bt n 6), .int .u8 (bt n 7)] t) := by
  show Calls Try.prog 24 #[.int .u64 n] w fun e w' => e = .returned (.agg #[.int .u8 (n % 256), .int .u8 (n / 256 % 256), .int .u8 (n / 65536 % 256), .int .u8 (n / 16777216 % 256), .int .u8 (n / 4294967296 % 256), .int .u8 (n / 1099511627776 % 256), .int .u8 (n / 281474976710656 % 256), .int .u8 (n / 72057594037927936 % 256)]) ∧ ∃ t, w' = (w.alloc (.cells #[.int .u8 (n % 256), .int .u8 (n / 256 % 256), .int .u8 (n / 65536 % 256), .int .u8 (n / 16777216 % 256), .int .u8 (n / 4294967296 % 256), .int .u8 (n / 1099511627776 % 256), .int .u8 (n / 281474976710656 % 256), .int .u8 (n / 72057594037927936 % 256)] t)).alloc (.cells #[.int .u8 (n % 256), .int .u8 (n / 256 % 256), .int .u8 (n / 65536 % 256), .int .u8 (n / 16777216 % 256), .int .u8 (n / 4294967296 % 256), .int .u8 (n / 1099511627776 % 256), .int .u8 (n / 281474976710656 % 256), .int .u8 (n / 72057594037927936 % 256)] t)
  go_enter Try.func24, Try.ntmps24
  go_wp2
  go_rounds 9
  go_returns
  have e7 : n / 72057594037927936 % 256 = n / 72057594037927936 := by omega
  rw [e7]
  exact ⟨rfl, _, rfl⟩

/-- The number of eight bytes. -/
def num8 (z0 z1 z2 z3 z4 z5 z6 z7 : Int) : Int := z0 + z1 * 256 + z2 * 65536 + z3 * 16777216 + z4 * 4294967296 + z5 * 1099511627776 + z6 * 281474976710656 + z7 * 72057594037927936

theorem num8_bt (n : Int) (h0 : 0 ≤ n) (h1 : n < 18446744073709551616) : num8 (bt n 0) (bt n 1) (bt n 2) (bt n 3) (bt n 4) (bt n 5) (bt n 6) (bt n 7) = n := by
  unfold num8
  show n % 256 + (n / 256) % 256 * 256 + (n / 65536) % 256 * 65536 + (n / 16777216) % 256 * 16777216 + (n / 4294967296) % 256 * 4294967296 + (n / 1099511627776) % 256 * 1099511627776 + (n / 281474976710656) % 256 * 281474976710656 + (n / 72057594037927936) % 256 * 72057594037927936 = n
  omega
theorem bt_bds (n : Int) : (0 ≤ bt n 0 ∧ bt n 0 ≤ 255) ∧ (0 ≤ bt n 1 ∧ bt n 1 ≤ 255) ∧ (0 ≤ bt n 2 ∧ bt n 2 ≤ 255) ∧ (0 ≤ bt n 3 ∧ bt n 3 ≤ 255) ∧ (0 ≤ bt n 4 ∧ bt n 4 ≤ 255) ∧ (0 ≤ bt n 5 ∧ bt n 5 ≤ 255) ∧ (0 ≤ bt n 6 ∧ bt n 6 ≤ 255) ∧ (0 ≤ bt n 7 ∧ bt n 7 ≤ 255) := by
  simp only [bt]
  omega

set_option maxHeartbeats 1000000 in
theorem read8 (b off cap : Nat) (z0 z1 z2 z3 z4 z5 z6 z7 : Int) (w : World) (c0 : w.cell? ⟨b, off, none⟩ = some (.int .u8 z0)) (p0 : 0 ≤ z0) (q0 : z0 ≤ 255) (c1 : w.cell? ⟨b, off + 1, none⟩ = some (.int .u8 z1)) (p1 : 0 ≤ z1) (q1 : z1 ≤ 255) (c2 : w.cell? ⟨b, off + 2, none⟩ = some (.int .u8 z2)) (p2 : 0 ≤ z2) (q2 : z2 ≤ 255) (c3 : w.cell? ⟨b, off + 3, none⟩ = some (.int .u8 z3)) (p3 : 0 ≤ z3) (q3 : z3 ≤ 255) (c4 : w.cell? ⟨b, off + 4, none⟩ = some (.int .u8 z4)) (p4 : 0 ≤ z4) (q4 : z4 ≤ 255) (c5 : w.cell? ⟨b, off + 5, none⟩ = some (.int .u8 z5)) (p5 : 0 ≤ z5) (q5 : z5 ≤ 255) (c6 : w.cell? ⟨b, off + 6, none⟩ = some (.int .u8 z6)) (p6 : 0 ≤ z6) (q6 : z6 ≤ 255) (c7 : w.cell? ⟨b, off + 7, none⟩ = some (.int .u8 z7)) (p7 : 0 ≤ z7) (q7 : z7 ≤ 255) :
    Calls Try.prog 22 #[.slice (some ⟨b, off, none⟩) 8 cap] w fun e w' => e = .returned (.tuple #[.int .u64 (num8 z0 z1 z2 z3 z4 z5 z6 z7), .int .i64 0]) ∧ w' = w := by
  have o0 : bits .or .u64 0 z0 = z0 := or_zero z0 p0 (by omega)
  obtain ⟨A1, e1⟩ : ∃ A, z0 + z1 * 256 = A := ⟨_, rfl⟩
  have o1 : bits .or .u64 z0 (z1 * 256) = A1 := (or_add 8 z0 z1 256 (by decide) (by omega) (by omega) (by omega) (by omega)).trans e1
  obtain ⟨A2, e2⟩ : ∃ A, A1 + z2 * 65536 = A := ⟨_, rfl⟩
  have o2 : bits .or .u64 A1 (z2 * 65536) = A2 := (or_add 16 A1 z2 65536 (by decide) (by omega) (by omega) (by omega) (by omega)).trans e2
  obtain ⟨A3, e3⟩ : ∃ A, A2 + z3 * 16777216 = A := ⟨_, rfl⟩
  have o3 : bits .or .u64 A2 (z3 * 16777216) = A3 := (or_add 24 A2 z3 16777216 (by decide) (by omega) (by omega) (by omega) (by omega)).trans e3
  obtain ⟨A4, e4⟩ : ∃ A, A3 + z4 * 4294967296 = A := ⟨_, rfl⟩
  have o4 : bits .or .u64 A3 (z4 * 4294967296) = A4 := (or_add 32 A3 z4 4294967296 (by decide) (by omega) (by omega) (by omega) (by omega)).trans e4
  obtain ⟨A5, e5⟩ : ∃ A, A4 + z5 * 1099511627776 = A := ⟨_, rfl⟩
  have o5 : bits .or .u64 A4 (z5 * 1099511627776) = A5 := (or_add 40 A4 z5 1099511627776 (by decide) (by omega) (by omega) (by omega) (by omega)).trans e5
  obtain ⟨A6, e6⟩ : ∃ A, A5 + z6 * 281474976710656 = A := ⟨_, rfl⟩
  have o6 : bits .or .u64 A5 (z6 * 281474976710656) = A6 := (or_add 48 A5 z6 281474976710656 (by decide) (by omega) (by omega) (by omega) (by omega)).trans e6
  obtain ⟨A7, e7⟩ : ∃ A, A6 + z7 * 72057594037927936 = A := ⟨_, rfl⟩
  have o7 : bits .or .u64 A6 (z7 * 72057594037927936) = A7 := (or_add 56 A6 z7 72057594037927936 (by decide) (by omega) (by omega) (by omega) (by omega)).trans e7
  have en : A7 = num8 z0 z1 z2 z3 z4 z5 z6 z7 := by unfold num8; omega
  have EN := hid en
  clear en e1 e2 e3 e4 e5 e6 e7
  go_enter Try.func22, Try.ntmps22
  go_wp2
  go_rounds 9
  go_ret2
  exact ⟨ret2 EN.out rfl, rfl⟩

set_option maxHeartbeats 1000000 in
theorem rRead8 (b off cap : Nat) (z0 z1 z2 z3 z4 z5 z6 z7 : Int) (w : World) (c0 : w.cell? ⟨b, off, none⟩ = some (.int .u8 z0)) (p0 : 0 ≤ z0) (q0 : z0 ≤ 255) (c1 : w.cell? ⟨b, off + 1, none⟩ = some (.int .u8 z1)) (p1 : 0 ≤ z1) (q1 : z1 ≤ 255) (c2 : w.cell? ⟨b, off + 2, none⟩ = some (.int .u8 z2)) (p2 : 0 ≤ z2) (q2 : z2 ≤ 255) (c3 : w.cell? ⟨b, off + 3, none⟩ = some (.int .u8 z3)) (p3 : 0 ≤ z3) (q3 : z3 ≤ 255) (c4 : w.cell? ⟨b, off + 4, none⟩ = some (.int .u8 z4)) (p4 : 0 ≤ z4) (q4 : z4 ≤ 255) (c5 : w.cell? ⟨b, off + 5, none⟩ = some (.int .u8 z5)) (p5 : 0 ≤ z5) (q5 : z5 ≤ 255) (c6 : w.cell? ⟨b, off + 6, none⟩ = some (.int .u8 z6)) (p6 : 0 ≤ z6) (q6 : z6 ≤ 255) (c7 : w.cell? ⟨b, off + 7, none⟩ = some (.int .u8 z7)) (p7 : 0 ≤ z7) (q7 : z7 ≤ 255) :
    Calls Try.prog 23 #[.slice (some ⟨b, off, none⟩) 8 cap] w fun e w' => e = .returned (.tuple #[.int .u64 (num8 z0 z1 z2 z3 z4 z5 z6 z7), .int .i64 0]) ∧ w' = w := by
  have o7 : bits .or .u64 0 z7 = z7 := or_zero z7 p7 (by omega)
  obtain ⟨H6, e6⟩ : ∃ H, z7 * 256 + z6 = H := ⟨_, rfl⟩
  have o6 : bits .or .u64 (z7 * 256) z6 = H6 := (or_low z7 z6 (by omega) (by omega) (by omega) (by omega)).trans e6
  obtain ⟨H5, e5⟩ : ∃ H, H6 * 256 + z5 = H := ⟨_, rfl⟩
  have o5 : bits .or .u64 (H6 * 256) z5 = H5 := (or_low H6 z5 (by omega) (by omega) (by omega) (by omega)).trans e5
  obtain ⟨H4, e4⟩ : ∃ H, H5 * 256 + z4 = H := ⟨_, rfl⟩
  have o4 : bits .or .u64 (H5 * 256) z4 = H4 := (or_low H5 z4 (by omega) (by omega) (by omega) (by omega)).trans e4
  obtain ⟨H3, e3⟩ : ∃ H, H4 * 256 + z3 = H := ⟨_, rfl⟩
  have o3 : bits .or .u64 (H4 * 256) z3 = H3 := (or_low H4 z3 (by omega) (by omega) (by omega) (by omega)).trans e3
  obtain ⟨H2, e2⟩ : ∃ H, H3 * 256 + z2 = H := ⟨_, rfl⟩
  have o2 : bits .or .u64 (H3 * 256) z2 = H2 := (or_low H3 z2 (by omega) (by omega) (by omega) (by omega)).trans e2
  obtain ⟨H1, e1⟩ : ∃ H, H2 * 256 + z1 = H := ⟨_, rfl⟩
  have o1 : bits .or .u64 (H2 * 256) z1 = H1 := (or_low H2 z1 (by omega) (by omega) (by omega) (by omega)).trans e1
  obtain ⟨H0, e0⟩ : ∃ H, H1 * 256 + z0 = H := ⟨_, rfl⟩
  have o0 : bits .or .u64 (H1 * 256) z0 = H0 := (or_low H1 z0 (by omega) (by omega) (by omega) (by omega)).trans e0
  have en : H0 = num8 z0 z1 z2 z3 z4 z5 z6 z7 := by unfold num8; omega
  have EN := hid en
  have b6 : 0 ≤ H6 ∧ H6 < 65536 := by omega
  have b5 : 0 ≤ H5 ∧ H5 < 16777216 := by omega
  have b4 : 0 ≤ H4 ∧ H4 < 4294967296 := by omega
  have b3 : 0 ≤ H3 ∧ H3 < 1099511627776 := by omega
  have b2 : 0 ≤ H2 ∧ H2 < 281474976710656 := by omega
  have b1 : 0 ≤ H1 ∧ H1 < 72057594037927936 := by omega
  clear en e0 e1 e2 e3 e4 e5 e6
  go_enter Try.func23, Try.ntmps23
  go_wp2
  go_rounds 9
  go_ret2
  exact ⟨ret2 EN.out rfl, rfl⟩

set_option maxHeartbeats 400000 in
theorem read_no (a : Option Addr) (len cap : Nat) (w : World) (h : ¬ len = 8) :
    Calls Try.prog 22 #[.slice a len cap] w fun e w' => e = .returned (.tuple #[.int .u64 0, .int .i64 4]) ∧ w' = w := by
  have h' : ((len : Int) == 8) = false := by simp; omega
  go_enter Try.func22, Try.ntmps22
  go_wp2
  go_ret2
  exact ⟨rfl, rfl⟩

set_option maxHeartbeats 400000 in
theorem rRead_no (a : Option Addr) (len cap : Nat) (w : World) (h : ¬ len = 8) :
    Calls Try.prog 23 #[.slice a len cap] w fun e w' => e = .returned (.tuple #[.int .u64 0, .int .i64 4]) ∧ w' = w := by
  have h' : ((len : Int) == 8) = false := by simp; omega
  go_enter Try.func23, Try.ntmps23
  go_wp2
  go_ret2
  exact ⟨rfl, rfl⟩

/-- Arrays of integers, compared. -/
theorem run_eqItems_ints {P : Program} (d : Nat) (e : TypeId) (k k' : IntKind) (he : P.underlying e = some (.int k')) (ha : ∀ w : World, (isAgg e).run P w = .ok false w) (xs ys : Array Value) (f g : Nat → Int) (w : World) :
    ∀ is : List Nat, (∀ j ∈ is, xs[j]? = some (.int k (f j)) ∧ ys[j]? = some (.int k (g j))) → (Op.eqItems (d + 1) e 1 xs ys is).run P w = .ok (is.all fun j => f j == g j) w
  | [], _ => by simp [Op.eqItems]
  | i :: is, h => by
    obtain ⟨hx, hy⟩ := h i (List.mem_cons_self ..)
    have ih := run_eqItems_ints d e k k' he ha xs ys f g w is (fun j hj => h j (List.mem_cons_of_mem _ hj))
    have px : (part e xs (i * 1)).run P w = .ok (.int k (f i)) w := by rw [Nat.mul_one]; simp [part, ha, hx]
    have py : (part e ys (i * 1)).run P w = .ok (.int k (g i)) w := by rw [Nat.mul_one]; simp [part, ha, hy]
    simp only [Op.eqItems, Sem.run_bind, px, py, run_equalIn_int w d e k k' _ _ he, Result.andThen_ok]
    cases hfg : (f i == g i)
    · simp [hfg]
    · simp [hfg, ih]

theorem eq8 (w : World) (z0 z1 z2 z3 z4 z5 z6 z7 : Int) : (Op.equalIn 10000 34 (.agg #[.int .u8 z0, .int .u8 z1, .int .u8 z2, .int .u8 z3, .int .u8 z4, .int .u8 z5, .int .u8 z6, .int .u8 z7]) (.agg #[.int .u8 z0, .int .u8 z1, .int .u8 z2, .int .u8 z3, .int .u8 z4, .int .u8 z5, .int .u8 z6, .int .u8 z7])).run Try.prog w = .ok true w := by
  have hi : ∃ i, Try.prog.info? 5 = some i := ⟨_, rfl⟩
  obtain ⟨i, hi⟩ := hi
  have hc : Try.prog.cellsOf 5 = 1 := by kernel_rfl
  rw [run_equalIn_array w 9999 _ _ Try.underlying34 hi, hc]
  have h := run_eqItems_ints (P := Try.prog) 9998 5 .u8 .u8 Try.underlying5 Try.isAgg5 #[.int .u8 z0, .int .u8 z1, .int .u8 z2, .int .u8 z3, .int .u8 z4, .int .u8 z5, .int .u8 z6, .int .u8 z7] #[.int .u8 z0, .int .u8 z1, .int .u8 z2, .int .u8 z3, .int .u8 z4, .int .u8 z5, .int .u8 z6, .int .u8 z7] (fun j => [z0, z1, z2, z3, z4, z5, z6, z7].getD j 0) (fun j => [z0, z1, z2, z3, z4, z5, z6, z7].getD j 0) w (List.range 8) (by
    intro j hj
    have hj := List.mem_range.1 hj
    have : j = 0 ∨ j = 1 ∨ j = 2 ∨ j = 3 ∨ j = 4 ∨ j = 5 ∨ j = 6 ∨ j = 7 := by omega
    rcases this with rfl | rfl | rfl | rfl | rfl | rfl | rfl | rfl <;> exact ⟨rfl, rfl⟩)
  rw [h]
  simp

/-- Reading an array of a number's bytes that has just been laid. -/
theorem read_new (W : World) (b : Nat) (t : TypeId) (n : Int) (h0 : 0 ≤ n) (h1 : n < 18446744073709551616) (hb : b = W.heap.size) :
    Calls Try.prog 22 #[.slice (some ⟨b, 0, none⟩) 8 8] (W.alloc (.cells #[.int .u8 (bt n 0), .int .u8 (bt n 1), .int .u8 (bt n 2), .int .u8 (bt n 3), .int .u8 (bt n 4), .int .u8 (bt n 5), .int .u8 (bt n 6), .int .u8 (bt n 7)] t)) fun e w' => e = .returned (.tuple #[.int .u64 n, .int .i64 0]) ∧ w' = W.alloc (.cells #[.int .u8 (bt n 0), .int .u8 (bt n 1), .int .u8 (bt n 2), .int .u8 (bt n 3), .int .u8 (bt n 4), .int .u8 (bt n 5), .int .u8 (bt n 6), .int .u8 (bt n 7)] t) := by
  subst hb
  obtain ⟨p0, p1, p2, p3, p4, p5, p6, p7⟩ := bt_bds n
  have h := read8 W.heap.size 0 8 (bt n 0) (bt n 1) (bt n 2) (bt n 3) (bt n 4) (bt n 5) (bt n 6) (bt n 7) (W.alloc (.cells #[.int .u8 (bt n 0), .int .u8 (bt n 1), .int .u8 (bt n 2), .int .u8 (bt n 3), .int .u8 (bt n 4), .int .u8 (bt n 5), .int .u8 (bt n 6), .int .u8 (bt n 7)] t)) (by simp [go_sem]) p0.1 p0.2 (by simp [go_sem]) p1.1 p1.2 (by simp [go_sem]) p2.1 p2.2 (by simp [go_sem]) p3.1 p3.2 (by simp [go_sem]) p4.1 p4.2 (by simp [go_sem]) p5.1 p5.2 (by simp [go_sem]) p6.1 p6.2 (by simp [go_sem]) p7.1 p7.2
  rw [num8_bt n h0 h1] at h
  exact h

end Go.Proofs.Ytbilbiehgagfkaa
