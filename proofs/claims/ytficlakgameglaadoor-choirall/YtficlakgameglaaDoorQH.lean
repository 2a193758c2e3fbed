/-
  What word.Bytes, word.Read and the document's like of them answer, beside package sha.
  Shuffled places: plain numbers. A round takes two places of a pair to each other or leaves both, so it undoes itself.
  What the small functions of package shuf answer: flipOf, isPlace, isSet, pivotOf, sourceOf, afterRound.
-/
import Derived.Test.YtficlakgameglaaDoorQL
import Derived.Test.YtficlakgameglaaDoorNum
import Derived.Test.YtficlakgameglaaDoorRows
import Derived.Handy

import Derived.WalkKit

import Derived.ArgAppend

import Derived.Laws.BitsAllLaws

import Derived.Deep.WholeRow

import Derived.Deep.RegionHeld3

namespace Go.Proofs.YtficlakgameglaaDoor

open Go.RowKit

set_option linter.unusedVariables false

set_option linter.unusedSimpArgs false

/-- The byte at place i, the lowest first. -/
def bt (n : Int) : Nat → Int
  | 0 => n % 256
  | 1 => n / 256 % 256
  | 2 => n / 65536 % 256
  | 3 => n / 16777216 % 256
  | 4 => n / 4294967296 % 256
  | 5 => n / 1099511627776 % 256
  | 6 => n / 281474976710656 % 256
  | _ => n / 72057594037927936 % 256

theorem or_zero (z : Int) (h0 : 0 ≤ z) (h1 : z < 18446744073709551616) : bits .or .u64 0 z = z := by
  obtain ⟨z, rfl⟩ := Int.eq_ofNat_of_zero_le h0
  have h := bits_or_u64_nat 0 z (by omega) (by omega)
  rw [Nat.zero_or] at h
  exact h

theorem or_add (k : Nat) (A z P : Int) (hP : P = 2 ^ k) (hA : 0 ≤ A) (hA' : A < P) (hz : 0 ≤ z) (h : A + z * P < 18446744073709551616) : bits .or .u64 A (z * P) = A + z * P := by
  obtain ⟨A, rfl⟩ := Int.eq_ofNat_of_zero_le hA
  obtain ⟨z, rfl⟩ := Int.eq_ofNat_of_zero_le hz
  have ep : ((2 ^ k : Nat) : Int) = (2 : Int) ^ k := by simp
  have e : (z : Int) * P = ((2 ^ k * z : Nat) : Int) := by rw [Int.natCast_mul, ep, hP, Int.mul_comm]
  rw [hP, ← ep] at hA'
  rw [e] at h ⊢
  rw [or_nat' k z A (by omega) (by omega)]
  omega

theorem ret2 {k l : IntKind} {a b c d : Int} (h1 : a = c) (h2 : b = d) : Ending.returned (.tuple #[.int k a, .int l b]) = .returned (.tuple #[.int k c, .int l d]) := by rw [h1, h2]

set_option maxHeartbeats 1000000 in
theorem bytesU_any (n : Int) (w : World) (h0 : 0 ≤ n) (h1 : n < 18446744073709551616) :
    Calls Tryd.prog 80 #[.int .u64 n] w fun e w' => e = .returned (.agg (vs .u8 8 (bt n))) ∧ Below w.heap.size w w' := by
  show Calls Tryd.prog 80 #[.int .u64 n] w fun e w' => e = .returned (.agg #[.int .u8 (n % 256), .int .u8 (n / 256 % 256), .int .u8 (n / 65536 % 256), .int .u8 (n / 16777216 % 256), .int .u8 (n / 4294967296 % 256), .int .u8 (n / 1099511627776 % 256), .int .u8 (n / 281474976710656 % 256), .int .u8 (n / 72057594037927936 % 256)]) ∧ Below w.heap.size w w'
  go_enter Tryd.func80, Tryd.ntmps80
  go_wp2
  go_rounds 9
  go_returns
  have e7 : n / 72057594037927936 % 256 = n / 72057594037927936 := by omega
  rw [e7]
  refine ⟨rfl, ?_⟩
  go_grown

/-- The number of eight bytes. -/
def num8 (z0 z1 z2 z3 z4 z5 z6 z7 : Int) : Int := z0 + z1 * 256 + z2 * 65536 + z3 * 16777216 + z4 * 4294967296 + z5 * 1099511627776 + z6 * 281474976710656 + z7 * 72057594037927936

set_option maxHeartbeats 1000000 in
theorem read8 (b off cap : Nat) (z0 z1 z2 z3 z4 z5 z6 z7 : Int) (w : World) (c0 : w.cell? ⟨b, off, none⟩ = some (.int .u8 z0)) (p0 : 0 ≤ z0) (q0 : z0 ≤ 255) (c1 : w.cell? ⟨b, off + 1, none⟩ = some (.int .u8 z1)) (p1 : 0 ≤ z1) (q1 : z1 ≤ 255) (c2 : w.cell? ⟨b, off + 2, none⟩ = some (.int .u8 z2)) (p2 : 0 ≤ z2) (q2 : z2 ≤ 255) (c3 : w.cell? ⟨b, off + 3, none⟩ = some (.int .u8 z3)) (p3 : 0 ≤ z3) (q3 : z3 ≤ 255) (c4 : w.cell? ⟨b, off + 4, none⟩ = some (.int .u8 z4)) (p4 : 0 ≤ z4) (q4 : z4 ≤ 255) (c5 : w.cell? ⟨b, off + 5, none⟩ = some (.int .u8 z5)) (p5 : 0 ≤ z5) (q5 : z5 ≤ 255) (c6 : w.cell? ⟨b, off + 6, none⟩ = some (.int .u8 z6)) (p6 : 0 ≤ z6) (q6 : z6 ≤ 255) (c7 : w.cell? ⟨b, off + 7, none⟩ = some (.int .u8 z7)) (p7 : 0 ≤ z7) (q7 : z7 ≤ 255) :
    Calls Tryd.prog 107 #[.slice (some ⟨b, off, none⟩) 8 cap] w fun e w' => e = .returned (.tuple #[.int .u64 (num8 z0 z1 z2 z3 z4 z5 z6 z7), .int .i64 0]) ∧ w' = w := by
  have o0 : bits .or .u64 0 z0 = z0 := or_zero z0 p0 (by omega)
  obtain ⟨A1, e1⟩ : ∃ A, z0 + z1 * 256 = A := ⟨_, rfl⟩
  have o1 : bits .or .u64 z0 (z1 * 256) = A1 := (or_add 8 z0 z1 256 (by decide) (by omega) (by omega) (by omega) (by omega)).trans e1
  obtain ⟨A2, e2⟩ : ∃ A, A1 + z2 * 65536 = A := ⟨_, rfl⟩
  have o2 : bits .or .u64 A1 (z2 * 65536) = A2 := (or_add 16 A1 z2 65536 (by decide) (by omega) (by omega) (by omega) (by omega)).trans e2
  obtain ⟨A3, e3⟩ : ∃ A, A2 + z3 * 16777216 = A := ⟨_, rfl⟩
  have o3 : bits .or .u64 A2 (z3 * 16777216) = A3 := (or_add 24 A2 z3 16777216 (by decide) (by omega) (by omega) (by omega) (by omega)).trans e3
  obtain ⟨A4, e4⟩ : ∃ A, A3 + z4 * 4294967296 = A := ⟨_, rfl⟩
  have o4 : bits .or .u64 A3 (z4 * 4294967296) = A4 := (or_add 32 A3 z4 4294967296 (by decide) (by omega) (by omega) (by omega) (by omega)).trans e4
  obtain ⟨A5, e5⟩ : ∃ A, A4 + z5 * 1099511627776 = A := ⟨_, rfl⟩
  have o5 : bits .or .u64 A4 (z5 * 1099511627776) = A5 := (or_add 40 A4 z5 1099511627776 (by decide) (by omega) (by omega) (by omega) (by omega)).trans e5
  obtain ⟨A6, e6⟩ : ∃ A, A5 + z6 * 281474976710656 = A := ⟨_, rfl⟩
  have o6 : bits .or .u64 A5 (z6 * 281474976710656) = A6 := (or_add 48 A5 z6 281474976710656 (by decide) (by omega) (by omega) (by omega) (by omega)).trans e6
  obtain ⟨A7, e7⟩ : ∃ A, A6 + z7 * 72057594037927936 = A := ⟨_, rfl⟩
  have o7 : bits .or .u64 A6 (z7 * 72057594037927936) = A7 := (or_add 56 A6 z7 72057594037927936 (by decide) (by omega) (by omega) (by omega) (by omega)).trans e7
  have en : A7 = num8 z0 z1 z2 z3 z4 z5 z6 z7 := by unfold num8; omega
  have EN := hid en
  clear en e1 e2 e3 e4 e5 e6 e7
  go_enter Tryd.func107, Tryd.ntmps107
  go_wp2
  go_rounds 9
  go_ret2
  exact ⟨ret2 EN.out rfl, rfl⟩

end Go.Proofs.YtficlakgameglaaDoor

namespace Go.Proofs.YtficlakgameglaaDoor

set_option linter.unusedVariables false

/-- The other one of a place's pair. -/
def fl (i n p : Int) : Int := (p + n - i) % n

theorem fl_up {i n p : Int} (h0 : 0 ≤ i) (h1 : i < n) (p0 : 0 ≤ p) (p1 : p < n) (h : p < i) : fl i n p = p + n - i := Int.emod_eq_of_lt (by omega) (by omega)

theorem fl_dn {i n p : Int} (h0 : 0 ≤ i) (h1 : i < n) (p0 : 0 ≤ p) (p1 : p < n) (h : i ≤ p) : fl i n p = p - i := by
  unfold fl
  rw [show p + n - i = (p - i) + n by omega, Int.add_emod_right]
  exact Int.emod_eq_of_lt (by omega) (by omega)

theorem fl_bd {i n p : Int} (h0 : 0 ≤ i) (h1 : i < n) (p0 : 0 ≤ p) (p1 : p < n) : 0 ≤ fl i n p ∧ fl i n p < n := by
  by_cases h : p < i
  · rw [fl_up h0 h1 p0 p1 h]; omega
  · rw [fl_dn h0 h1 p0 p1 (by omega)]; omega

/-- The greater one. -/
def mx (a b : Int) : Int := if a < b then b else a

/-- A place behind a round whose bits are B's, and whose pivot is p. -/
def rdX (B : Int → Bool) (p n i : Int) : Int := if B (mx i (fl i n p)) = true then fl i n p else i

theorem rdX_bd (B : Int → Bool) {i n p : Int} (h0 : 0 ≤ i) (h1 : i < n) (p0 : 0 ≤ p) (p1 : p < n) : 0 ≤ rdX B p n i ∧ rdX B p n i < n := by
  unfold rdX
  split
  · exact fl_bd h0 h1 p0 p1
  · exact ⟨h0, h1⟩

end Go.Proofs.YtficlakgameglaaDoor

namespace Go.Proofs.YtficlakgameglaaDoor

open Go.RowKit

set_option linter.unusedVariables false

set_option linter.unusedSimpArgs false

/-- The seed and the round; the four bytes behind them. -/
def sd1 (s : Nat → Int) (r : Int) (j : Nat) : Int := if j < 32 then s j else r

def sd2 (s : Nat → Int) (r q : Int) (j : Nat) : Int := if j < 33 then sd1 s r j else bt q (j - 33)

/-- A round's pivot. -/
def pvN (s : Nat → Int) (r : Int) : Int := num8 (shaV KW HW (sd1 s r) 33 0) (shaV KW HW (sd1 s r) 33 1) (shaV KW HW (sd1 s r) 33 2) (shaV KW HW (sd1 s r) 33 3) (shaV KW HW (sd1 s r) 33 4) (shaV KW HW (sd1 s r) 33 5) (shaV KW HW (sd1 s r) 33 6) (shaV KW HW (sd1 s r) 33 7)

def pv (s : Nat → Int) (r n : Int) : Int := pvN s r % n

theorem num8_bd {z0 z1 z2 z3 z4 z5 z6 z7 : Int} (h0 : 0 ≤ z0 ∧ z0 < 256) (h1 : 0 ≤ z1 ∧ z1 < 256) (h2 : 0 ≤ z2 ∧ z2 < 256) (h3 : 0 ≤ z3 ∧ z3 < 256) (h4 : 0 ≤ z4 ∧ z4 < 256) (h5 : 0 ≤ z5 ∧ z5 < 256) (h6 : 0 ≤ z6 ∧ z6 < 256) (h7 : 0 ≤ z7 ∧ z7 < 256) : 0 ≤ num8 z0 z1 z2 z3 z4 z5 z6 z7 ∧ num8 z0 z1 z2 z3 z4 z5 z6 z7 < 18446744073709551616 := by
  unfold num8
  omega

theorem pvN_bd (s : Nat → Int) (r : Int) : 0 ≤ pvN s r ∧ pvN s r < 18446744073709551616 := num8_bd (shaV_bd ..) (shaV_bd ..) (shaV_bd ..) (shaV_bd ..) (shaV_bd ..) (shaV_bd ..) (shaV_bd ..) (shaV_bd ..)

theorem pv_bd (s : Nat → Int) (r : Int) {n : Int} (h : 0 < n) : 0 ≤ pv s r n ∧ pv s r n < n := ⟨Int.emod_nonneg _ (by omega), Int.emod_lt_of_pos _ h⟩

/-- The source of a place's bits. -/
def srcV (s : Nat → Int) (r q : Int) : Nat → Int := shaV KW HW (sd2 s r q) 37

/-- A source's bit for a place. -/
def bitB (f : Nat → Int) (p : Int) : Bool := decide (f (p % 256 / 8).toNat / 2 ^ (p % 8).toNat % 2 = 1)

def rdB (s : Nat → Int) (r : Int) (p : Int) : Bool := bitB (srcV s r (p / 256)) p

/-- A place behind a round. -/
def rdV (s : Nat → Int) (r n i : Int) : Int := rdX (rdB s r) (pv s r n) n i

theorem rdV_bd (s : Nat → Int) (r : Int) {n i : Int} (h0 : 0 ≤ i) (h1 : i < n) : 0 ≤ rdV s r n i ∧ rdV s r n i < n :=
  rdX_bd _ h0 h1 (pv_bd s r (by omega)).1 (pv_bd s r (by omega)).2

theorem sd1_bd {s : Nat → Int} {r : Int} (hs : ∀ j, j < 32 → 0 ≤ s j ∧ s j < 256) (hr : 0 ≤ r ∧ r < 256) (j : Nat) : 0 ≤ sd1 s r j ∧ sd1 s r j < 256 := by
  unfold sd1
  split
  · exact hs j ‹_›
  · exact hr

theorem bt_bd (n : Int) (j : Nat) : 0 ≤ bt n j ∧ bt n j < 256 := by
  unfold bt
  split <;> exact ⟨Int.emod_nonneg _ (by decide), Int.emod_lt_of_pos _ (by decide)⟩

theorem sd2_bd {s : Nat → Int} {r : Int} (hs : ∀ j, j < 32 → 0 ≤ s j ∧ s j < 256) (hr : 0 ≤ r ∧ r < 256) (q : Int) (j : Nat) : 0 ≤ sd2 s r q j ∧ sd2 s r q j < 256 := by
  unfold sd2
  split
  · exact sd1_bd hs hr j
  · exact bt_bd q _

theorem flip_any (i n p : Int) (w : World) (h0 : 0 ≤ i) (h1 : i < n) (hn : n ≤ 4294967296) (p0 : 0 ≤ p) (p1 : p < n) :
    Calls Tryd.prog 103 #[.int .u64 i, .int .u64 n, .int .u64 p] w fun e w' => e = .returned (.int .u64 (fl i n p)) ∧ w' = w := by
  go_enter Tryd.func103, Tryd.ntmps103
  go_wp2
  go_ret
  exact ⟨ret_int rfl, rfl⟩

/-- Is it a place? -/
def isP (i n : Int) : Bool := decide (n ≤ 4294967296) && decide (i < n)

theorem isplace_any (i n : Int) (w : World) :
    Calls Tryd.prog 96 #[.int .u64 i, .int .u64 n] w fun e w' => e = .returned (.bool (isP i n)) ∧ w' = w := by
  by_cases h : n ≤ 4294967296
  · by_cases h2 : i < n
    all_goals
      have e : isP i n = decide (i < n) := by unfold isP; simp [h]
      have E := hid e
      clear e
      go_enter Tryd.func96, Tryd.ntmps96
      go_wp2
      go_ret
      exact ⟨ret_bool (by rw [E.out]; simp [h2]), rfl⟩
  · have e : isP i n = false := by unfold isP; simp [h]
    have E := hid e
    clear e
    go_enter Tryd.func96, Tryd.ntmps96
    go_wp2
    go_ret
    exact ⟨ret_bool (by rw [E.out]), rfl⟩

theorem and_bitU (x : Int) (hx : 0 ≤ x) (hx' : x < 256) : bits .and .u8 x 1 = x % 2 := by
  obtain ⟨x, rfl⟩ := Int.eq_ofNat_of_zero_le hx
  have h := u8_and_nat x 1 (by omega) (by omega)
  have e : x &&& 1 = x % 2 := Nat.and_one_is_mod x
  rw [e] at h
  have h' : bits .and .u8 (x : Int) 1 = ((x % 2 : Nat) : Int) := h
  rw [h']
  omega

theorem shr_bd (x : Int) (k : Nat) (h0 : 0 ≤ x) (h1 : x < 256) : 0 ≤ x / 2 ^ k ∧ x / 2 ^ k < 256 := by
  have hp : (0 : Int) < 2 ^ k := Int.pow_pos (by decide)
  refine ⟨Int.ediv_nonneg h0 (by omega), ?_⟩
  have := Int.ediv_le_self (2 ^ k) h0
  omega

theorem bit_eq (f : Nat → Int) (p : Int) (hf : ∀ j, j < 32 → 0 ≤ f j ∧ f j < 256) (h0 : 0 ≤ p) (K : Nat) (hK : K = (p % 8).toNat) : (bits .and .u8 (f (p % 256 / 8).toNat / 2 ^ K) 1 == 1) = bitB f p := by
  subst hK
  have hj : (p % 256 / 8).toNat < 32 := by omega
  have hb := hf _ hj
  have hs := shr_bd _ (p % 8).toNat hb.1 hb.2
  rw [and_bitU _ hs.1 hs.2]
  unfold bitB
  rw [Bool.eq_iff_iff]
  simp

attribute [local go_sem ↓] sv24_eq lv24_eq sv8_eq

set_option maxRecDepth 20000 in
set_option maxHeartbeats 1000000 in
theorem isset_any (f : Nat → Int) (p : Int) (w : World) (hf : ∀ j, j < 32 → 0 ≤ f j ∧ f j < 256) (h0 : 0 ≤ p) (h1 : p < 18446744073709551616) :
    Calls Tryd.prog 105 #[.agg (vs .u8 32 f), .int .u64 p] w fun e w' => e = .returned (.bool (bitB f p)) ∧ Below w.heap.size w w' := by
  obtain ⟨J, hJ⟩ : ∃ J : Nat, p % 256 / 8 = (J : Int) := ⟨(p % 256 / 8).toNat, by omega⟩
  obtain ⟨K, hK⟩ : ∃ K : Nat, p % 256 % 8 = (K : Int) := ⟨(p % 256 % 8).toNat, by omega⟩
  have hJ' : J < 32 := by omega
  have hK' : K < 8 := by omega
  have hb := bit_eq f p hf h0 K (by omega)
  rw [hJ, Int.toNat_natCast] at hb
  have HB := hid hb
  have hfj := hf J hJ'
  obtain ⟨W, hW⟩ : ∃ W, w.alloc (.cells (vs .u8 32 f) 24) = W := ⟨_, rfl⟩
  have r0 : W.heap[w.heap.size]? = some (.cells (vs .u8 32 f) 24) := by rw [← hW]; exact heap_new rfl
  have hB : Below w.heap.size w W := by rw [← hW]; exact (Below.refl _ _).alloc (Nat.le_refl _) _
  have c0 := row_int r0 J hJ'
  have HBE := hid hB
  have j1 : (0 : Int) ≤ (J : Int) := by omega
  have j2 : (J : Int) < 32 := by omega
  have k1 : (0 : Int) ≤ (K : Int) := by omega
  have k2 : (K : Int) < 8 := by omega
  have HW := hid hW
  clear hb hf r0 hB hW
  go_enter Tryd.func105, Tryd.ntmps105
  go_upto_region 1 with fail
  rw [HW.out]
  clear HW
  go_wp2
  go_ret
  exact ⟨ret_bool HB.out, HBE.out⟩

end Go.Proofs.YtficlakgameglaaDoor
