/-
  What word.Bytes, word.Read and the document's like of them answer, beside package sha.
  Shuffled places: plain numbers. A round takes two places of a pair to each other or leaves both, so it undoes itself.
  What the small functions of package shuf answer: flipOf, isPlace, isSet, pivotOf, sourceOf, afterRound.
  What pivotOf, sourceOf and afterRound answer.
  What Place and Back answer.
-/
import Derived.Test.YtlidilnakiphiaaDoorLkM
import Derived.Test.YtlidilnakiphiaaDoorNum
import Derived.Test.YtlidilnakiphiaaDoorRows
import Derived.Handy

import Derived.WalkKit

import Derived.ArgAppend

import Derived.Laws.BitsAllLaws

import Derived.Deep.WholeRow

import Derived.Deep.RegionHeld3

import Derived.Deep.Onto

namespace Go.Proofs.YtlidilnakiphiaaDoor

open Go.RowKit

set_option linter.unusedVariables false

set_option linter.unusedSimpArgs false

/-- The byte at place i, the lowest first. -/
def bt (n : Int) : Nat → Int
  | 0 => n % 256
  | 1 => n / 256 % 256
  | 2 => n / 65536 % 256
  | 3 => n / 16777216 % 256
  | 4 => n / 4294967296 % 256
  | 5 => n / 1099511627776 % 256
  | 6 => n / 281474976710656 % 256
  | _ => n / 72057594037927936 % 256

theorem or_zero (z : Int) (h0 : 0 ≤ z) (h1 : z < 18446744073709551616) : bits .or .u64 0 z = z := by
  obtain ⟨z, rfl⟩ := Int.eq_ofNat_of_zero_le h0
  have h := bits_or_u64_nat 0 z (by omega) (by omega)
  rw [Nat.zero_or] at h
  exact h

theorem or_add (k : Nat) (A z P : Int) (hP : P = 2 ^ k) (hA : 0 ≤ A) (hA' : A < P) (hz : 0 ≤ z) (h : A + z * P < 18446744073709551616) : bits .or .u64 A (z * P) = A + z * P := by
  obtain ⟨A, rfl⟩ := Int.eq_ofNat_of_zero_le hA
  obtain ⟨z, rfl⟩ := Int.eq_ofNat_of_zero_le hz
  have ep : ((2 ^ k : Nat) : Int) = (2 : Int) ^ k := by simp
  have e : (z : Int) * P = ((2 ^ k * z : Nat) : Int) := by rw [Int.natCast_mul, ep, hP, Int.mul_comm]
  rw [hP, ← ep] at hA'
  rw [e] at h ⊢
  rw [or_nat' k z A (by omega) (by omega)]
  omega

theorem ret2 {k l : IntKind} {a b c d : Int} (h1 : a = c) (h2 : b = d) : Ending.returned (.tuple #[.int k a, .int l b]) = .returned (.tuple #[.int k c, .int l d]) := by rw [h1, h2]

set_option maxHeartbeats 1000000 in
theorem bytesU_any (n : Int) (w : World) (h0 : 0 ≤ n) (h1 : n < 18446744073709551616) :
    Calls Tryd.prog 25 #[.int .u64 n] w fun e w' => e = .returned (.agg (vs .u8 8 (bt n))) ∧ Below w.heap.size w w' := by
  show Calls Tryd.prog 25 #[.int .u64 n] w fun e w' => e = .returned (.agg #[.int .u8 (n % 256), .int .u8 (n / 256 % 256), .int .u8 (n / 65536 % 256), .int .u8 (n / 16777216 % 256), .int .u8 (n / 4294967296 % 256), .int .u8 (n / 1099511627776 % 256), .int .u8 (n / 281474976710656 % 256), .int .u8 (n / 72057594037927936 % 256)]) ∧ Below w.heap.size w w'
  go_enter Tryd.func25, Tryd.ntmps25
  go_wp2
  go_rounds 9
  go_returns
  have e7 : n / 72057594037927936 % 256 = n / 72057594037927936 := by omega
  rw [e7]
  refine ⟨rfl, ?_⟩
  go_grown

/-- The number of eight bytes. -/
def num8 (z0 z1 z2 z3 z4 z5 z6 z7 : Int) : Int := z0 + z1 * 256 + z2 * 65536 + z3 * 16777216 + z4 * 4294967296 + z5 * 1099511627776 + z6 * 281474976710656 + z7 * 72057594037927936

set_option maxHeartbeats 1000000 in
theorem read8 (b off cap : Nat) (z0 z1 z2 z3 z4 z5 z6 z7 : Int) (w : World) (c0 : w.cell? ⟨b, off, none⟩ = some (.int .u8 z0)) (p0 : 0 ≤ z0) (q0 : z0 ≤ 255) (c1 : w.cell? ⟨b, off + 1, none⟩ = some (.int .u8 z1)) (p1 : 0 ≤ z1) (q1 : z1 ≤ 255) (c2 : w.cell? ⟨b, off + 2, none⟩ = some (.int .u8 z2)) (p2 : 0 ≤ z2) (q2 : z2 ≤ 255) (c3 : w.cell? ⟨b, off + 3, none⟩ = some (.int .u8 z3)) (p3 : 0 ≤ z3) (q3 : z3 ≤ 255) (c4 : w.cell? ⟨b, off + 4, none⟩ = some (.int .u8 z4)) (p4 : 0 ≤ z4) (q4 : z4 ≤ 255) (c5 : w.cell? ⟨b, off + 5, none⟩ = some (.int .u8 z5)) (p5 : 0 ≤ z5) (q5 : z5 ≤ 255) (c6 : w.cell? ⟨b, off + 6, none⟩ = some (.int .u8 z6)) (p6 : 0 ≤ z6) (q6 : z6 ≤ 255) (c7 : w.cell? ⟨b, off + 7, none⟩ = some (.int .u8 z7)) (p7 : 0 ≤ z7) (q7 : z7 ≤ 255) :
    Calls Tryd.prog 46 #[.slice (some ⟨b, off, none⟩) 8 cap] w fun e w' => e = .returned (.tuple #[.int .u64 (num8 z0 z1 z2 z3 z4 z5 z6 z7), .int .i64 0]) ∧ w' = w := by
  have o0 : bits .or .u64 0 z0 = z0 := or_zero z0 p0 (by omega)
  obtain ⟨A1, e1⟩ : ∃ A, z0 + z1 * 256 = A := ⟨_, rfl⟩
  have o1 : bits .or .u64 z0 (z1 * 256) = A1 := (or_add 8 z0 z1 256 (by decide) (by omega) (by omega) (by omega) (by omega)).trans e1
  obtain ⟨A2, e2⟩ : ∃ A, A1 + z2 * 65536 = A := ⟨_, rfl⟩
  have o2 : bits .or .u64 A1 (z2 * 65536) = A2 := (or_add 16 A1 z2 65536 (by decide) (by omega) (by omega) (by omega) (by omega)).trans e2
  obtain ⟨A3, e3⟩ : ∃ A, A2 + z3 * 16777216 = A := ⟨_, rfl⟩
  have o3 : bits .or .u64 A2 (z3 * 16777216) = A3 := (or_add 24 A2 z3 16777216 (by decide) (by omega) (by omega) (by omega) (by omega)).trans e3
  obtain ⟨A4, e4⟩ : ∃ A, A3 + z4 * 4294967296 = A := ⟨_, rfl⟩
  have o4 : bits .or .u64 A3 (z4 * 4294967296) = A4 := (or_add 32 A3 z4 4294967296 (by decide) (by omega) (by omega) (by omega) (by omega)).trans e4
  obtain ⟨A5, e5⟩ : ∃ A, A4 + z5 * 1099511627776 = A := ⟨_, rfl⟩
  have o5 : bits .or .u64 A4 (z5 * 1099511627776) = A5 := (or_add 40 A4 z5 1099511627776 (by decide) (by omega) (by omega) (by omega) (by omega)).trans e5
  obtain ⟨A6, e6⟩ : ∃ A, A5 + z6 * 281474976710656 = A := ⟨_, rfl⟩
  have o6 : bits .or .u64 A5 (z6 * 281474976710656) = A6 := (or_add 48 A5 z6 281474976710656 (by decide) (by omega) (by omega) (by omega) (by omega)).trans e6
  obtain ⟨A7, e7⟩ : ∃ A, A6 + z7 * 72057594037927936 = A := ⟨_, rfl⟩
  have o7 : bits .or .u64 A6 (z7 * 72057594037927936) = A7 := (or_add 56 A6 z7 72057594037927936 (by decide) (by omega) (by omega) (by omega) (by omega)).trans e7
  have en : A7 = num8 z0 z1 z2 z3 z4 z5 z6 z7 := by unfold num8; omega
  have EN := hid en
  clear en e1 e2 e3 e4 e5 e6 e7
  go_enter Tryd.func46, Tryd.ntmps46
  go_wp2
  go_rounds 9
  go_ret2
  exact ⟨ret2 EN.out rfl, rfl⟩

end Go.Proofs.YtlidilnakiphiaaDoor

namespace Go.Proofs.YtlidilnakiphiaaDoor

set_option linter.unusedVariables false

/-- The other one of a place's pair. -/
def fl (i n p : Int) : Int := (p + n - i) % n

theorem fl_up {i n p : Int} (h0 : 0 ≤ i) (h1 : i < n) (p0 : 0 ≤ p) (p1 : p < n) (h : p < i) : fl i n p = p + n - i := Int.emod_eq_of_lt (by omega) (by omega)

theorem fl_dn {i n p : Int} (h0 : 0 ≤ i) (h1 : i < n) (p0 : 0 ≤ p) (p1 : p < n) (h : i ≤ p) : fl i n p = p - i := by
  unfold fl
  rw [show p + n - i = (p - i) + n by omega, Int.add_emod_right]
  exact Int.emod_eq_of_lt (by omega) (by omega)

theorem fl_bd {i n p : Int} (h0 : 0 ≤ i) (h1 : i < n) (p0 : 0 ≤ p) (p1 : p < n) : 0 ≤ fl i n p ∧ fl i n p < n := by
  by_cases h : p < i
  · rw [fl_up h0 h1 p0 p1 h]; omega
  · rw [fl_dn h0 h1 p0 p1 (by omega)]; omega

theorem fl_fl {i n p : Int} (h0 : 0 ≤ i) (h1 : i < n) (p0 : 0 ≤ p) (p1 : p < n) : fl (fl i n p) n p = i := by
  by_cases h : p < i
  · rw [fl_up h0 h1 p0 p1 h, fl_up (by omega) (by omega) p0 p1 (by omega)]; omega
  · rw [fl_dn h0 h1 p0 p1 (by omega), fl_dn (by omega) (by omega) p0 p1 (by omega)]; omega

/-- The greater one. -/
def mx (a b : Int) : Int := if a < b then b else a

theorem mx_comm (a b : Int) : mx a b = mx b a := by unfold mx; split <;> split <;> omega

theorem mx_lt {a b k : Int} : mx a b < k ↔ a < k ∧ b < k := by unfold mx; split <;> omega

theorem mx_l {a b : Int} (h : b ≤ a) : mx a b = a := by unfold mx; rw [if_neg (by omega)]

theorem mx_r {a b : Int} (h : a ≤ b) : mx a b = b := by unfold mx; split <;> omega

/-- A place behind a round whose bits are B's, and whose pivot is p. -/
def rdX (B : Int → Bool) (p n i : Int) : Int := if B (mx i (fl i n p)) = true then fl i n p else i

theorem rdX_bd (B : Int → Bool) {i n p : Int} (h0 : 0 ≤ i) (h1 : i < n) (p0 : 0 ≤ p) (p1 : p < n) : 0 ≤ rdX B p n i ∧ rdX B p n i < n := by
  unfold rdX
  split
  · exact fl_bd h0 h1 p0 p1
  · exact ⟨h0, h1⟩

theorem rdX_rdX (B : Int → Bool) {i n p : Int} (h0 : 0 ≤ i) (h1 : i < n) (p0 : 0 ≤ p) (p1 : p < n) : rdX B p n (rdX B p n i) = i := by
  by_cases h : B (mx i (fl i n p)) = true
  · have e : rdX B p n i = fl i n p := by unfold rdX; rw [if_pos h]
    rw [e]
    unfold rdX
    rw [fl_fl h0 h1 p0 p1, mx_comm, if_pos h]
  · have e : rdX B p n i = i := by unfold rdX; rw [if_neg h]
    rw [e, e]

/-- A list of which the places below k have gone through a round. -/
def swV (B : Int → Bool) (p : Int) (n : Nat) (f : Nat → Int) (k : Nat) (j : Nat) : Int :=
  if mx j (fl j n p) < k then f (rdX B p n j).toNat else f j

theorem swV_zero (B : Int → Bool) (p : Int) (n : Nat) (f : Nat → Int) (j : Nat) : swV B p n f 0 j = f j := by
  unfold swV
  rw [if_neg]
  intro h
  have := (mx_lt.1 h).1
  omega

theorem swV_end (B : Int → Bool) {p : Int} {n : Nat} (f : Nat → Int) {j : Nat} (p0 : 0 ≤ p) (p1 : p < n) (hj : j < n) : swV B p n f n j = f (rdX B p n j).toNat := by
  unfold swV
  rw [if_pos]
  exact mx_lt.2 ⟨by omega, (fl_bd (by omega) (by omega) p0 p1).2⟩

theorem swV_stay (B : Int → Bool) {p : Int} {n : Nat} (f : Nat → Int) {k j : Nat} (p0 : 0 ≤ p) (p1 : p < n) (hj : j < n) (hk : k < n) (h : ¬ (fl k n p < k ∧ B k = true)) : swV B p n f (k + 1) j = swV B p n f k j := by
  have b1 := fl_bd (i := (j : Int)) (n := (n : Int)) (by omega) (by omega) p0 p1
  have b2 := fl_bd (i := (k : Int)) (n := (n : Int)) (by omega) (by omega) p0 p1
  have ff := fl_fl (i := (j : Int)) (n := (n : Int)) (by omega) (by omega) p0 p1
  unfold swV
  by_cases h1 : mx j (fl j n p) < k
  · have h2 : mx (j : Int) (fl j n p) < ((k + 1 : Nat) : Int) := by omega
    rw [if_pos h1, if_pos h2]
  · by_cases h2 : mx (j : Int) (fl j n p) < ((k + 1 : Nat) : Int)
    · rw [if_neg h1, if_pos h2]
      have e : mx (j : Int) (fl j n p) = k := by omega
      have hr : rdX B p n j = j := by
        unfold rdX
        rw [e]
        by_cases hB : B (k : Int) = true
        · rw [if_pos hB]
          have hq : ¬ fl (k : Int) n p < k := fun hh => h ⟨hh, hB⟩
          by_cases ejk : j = k
          · subst ejk
            have : fl (j : Int) n p < ((j + 1 : Nat) : Int) := (mx_lt.1 h2).2
            omega
          · have e2 : fl (j : Int) n p = k := by
              unfold mx at e
              split at e <;> omega
            rw [e2] at ff
            have : (j : Int) < ((k + 1 : Nat) : Int) := (mx_lt.1 h2).1
            omega
        · rw [if_neg hB]
      rw [hr, Int.toNat_natCast]
    · rw [if_neg h1, if_neg h2]

theorem swV_step (B : Int → Bool) {p : Int} {n : Nat} (f : Nat → Int) {k j q : Nat} (p0 : 0 ≤ p) (p1 : p < n) (hj : j < n) (hk : k < n) (hq : fl k n p = (q : Int)) (h : q < k) (hB : B k = true) :
    swV B p n f (k + 1) j = if j = q then swV B p n f k k else if j = k then swV B p n f k q else swV B p n f k j := by
  have b1 := fl_bd (i := (j : Int)) (n := (n : Int)) (by omega) (by omega) p0 p1
  have ff := fl_fl (i := (j : Int)) (n := (n : Int)) (by omega) (by omega) p0 p1
  have fk := fl_fl (i := (k : Int)) (n := (n : Int)) (by omega) (by omega) p0 p1
  rw [hq] at fk
  have m1 : mx (k : Int) (fl k n p) = k := by rw [hq]; exact mx_l (by omega)
  have m2 : mx (q : Int) (fl q n p) = k := by rw [fk]; exact mx_r (by omega)
  have r1 : rdX B p n k = q := by unfold rdX; rw [m1, if_pos hB, hq]
  have r2 : rdX B p n q = k := by unfold rdX; rw [m2, if_pos hB, fk]
  by_cases e1 : j = q
  · subst e1
    rw [if_pos rfl]
    unfold swV
    rw [m1, m2, if_pos (by omega), if_neg (by omega), r2, Int.toNat_natCast]
  · rw [if_neg e1]
    by_cases e2 : j = k
    · subst e2
      rw [if_pos rfl]
      unfold swV
      rw [m1, m2, if_pos (by omega), if_neg (by omega), r1, Int.toNat_natCast]
    · rw [if_neg e2]
      unfold swV
      by_cases h1 : mx j (fl j n p) < k
      · have h2 : mx (j : Int) (fl j n p) < ((k + 1 : Nat) : Int) := by omega
        rw [if_pos h1, if_pos h2]
      · have h2 : ¬ mx (j : Int) (fl j n p) < ((k + 1 : Nat) : Int) := by
          intro h2
          have e : mx (j : Int) (fl j n p) = k := by omega
          unfold mx at e
          split at e
          · rw [e] at ff; omega
          · omega
        rw [if_neg h1, if_neg h2]

end Go.Proofs.YtlidilnakiphiaaDoor

namespace Go.Proofs.YtlidilnakiphiaaDoor

open Go.RowKit

set_option linter.unusedVariables false

set_option linter.unusedSimpArgs false

/-- The seed and the round; the four bytes behind them. -/
def sd1 (s : Nat → Int) (r : Int) (j : Nat) : Int := if j < 32 then s j else r

def sd2 (s : Nat → Int) (r q : Int) (j : Nat) : Int := if j < 33 then sd1 s r j else bt q (j - 33)

/-- A round's pivot. -/
def pvN (s : Nat → Int) (r : Int) : Int := num8 (shaV KW HW (sd1 s r) 33 0) (shaV KW HW (sd1 s r) 33 1) (shaV KW HW (sd1 s r) 33 2) (shaV KW HW (sd1 s r) 33 3) (shaV KW HW (sd1 s r) 33 4) (shaV KW HW (sd1 s r) 33 5) (shaV KW HW (sd1 s r) 33 6) (shaV KW HW (sd1 s r) 33 7)

def pv (s : Nat → Int) (r n : Int) : Int := pvN s r % n

theorem num8_bd {z0 z1 z2 z3 z4 z5 z6 z7 : Int} (h0 : 0 ≤ z0 ∧ z0 < 256) (h1 : 0 ≤ z1 ∧ z1 < 256) (h2 : 0 ≤ z2 ∧ z2 < 256) (h3 : 0 ≤ z3 ∧ z3 < 256) (h4 : 0 ≤ z4 ∧ z4 < 256) (h5 : 0 ≤ z5 ∧ z5 < 256) (h6 : 0 ≤ z6 ∧ z6 < 256) (h7 : 0 ≤ z7 ∧ z7 < 256) : 0 ≤ num8 z0 z1 z2 z3 z4 z5 z6 z7 ∧ num8 z0 z1 z2 z3 z4 z5 z6 z7 < 18446744073709551616 := by
  unfold num8
  omega

theorem pvN_bd (s : Nat → Int) (r : Int) : 0 ≤ pvN s r ∧ pvN s r < 18446744073709551616 := num8_bd (shaV_bd ..) (shaV_bd ..) (shaV_bd ..) (shaV_bd ..) (shaV_bd ..) (shaV_bd ..) (shaV_bd ..) (shaV_bd ..)

theorem pv_bd (s : Nat → Int) (r : Int) {n : Int} (h : 0 < n) : 0 ≤ pv s r n ∧ pv s r n < n := ⟨Int.emod_nonneg _ (by omega), Int.emod_lt_of_pos _ h⟩

/-- The source of a place's bits. -/
def srcV (s : Nat → Int) (r q : Int) : Nat → Int := shaV KW HW (sd2 s r q) 37

/-- A source's bit for a place. -/
def bitB (f : Nat → Int) (p : Int) : Bool := decide (f (p % 256 / 8).toNat / 2 ^ (p % 8).toNat % 2 = 1)

def rdB (s : Nat → Int) (r : Int) (p : Int) : Bool := bitB (srcV s r (p / 256)) p

/-- A place behind a round. -/
def rdV (s : Nat → Int) (r n i : Int) : Int := rdX (rdB s r) (pv s r n) n i

theorem rdV_bd (s : Nat → Int) (r : Int) {n i : Int} (h0 : 0 ≤ i) (h1 : i < n) : 0 ≤ rdV s r n i ∧ rdV s r n i < n :=
  rdX_bd _ h0 h1 (pv_bd s r (by omega)).1 (pv_bd s r (by omega)).2

theorem rdV_rdV (s : Nat → Int) (r : Int) {n i : Int} (h0 : 0 ≤ i) (h1 : i < n) : rdV s r n (rdV s r n i) = i :=
  rdX_rdX _ h0 h1 (pv_bd s r (by omega)).1 (pv_bd s r (by omega)).2

theorem sd1_bd {s : Nat → Int} {r : Int} (hs : ∀ j, j < 32 → 0 ≤ s j ∧ s j < 256) (hr : 0 ≤ r ∧ r < 256) (j : Nat) : 0 ≤ sd1 s r j ∧ sd1 s r j < 256 := by
  unfold sd1
  split
  · exact hs j ‹_›
  · exact hr

theorem bt_bd (n : Int) (j : Nat) : 0 ≤ bt n j ∧ bt n j < 256 := by
  unfold bt
  split <;> exact ⟨Int.emod_nonneg _ (by decide), Int.emod_lt_of_pos _ (by decide)⟩

theorem sd2_bd {s : Nat → Int} {r : Int} (hs : ∀ j, j < 32 → 0 ≤ s j ∧ s j < 256) (hr : 0 ≤ r ∧ r < 256) (q : Int) (j : Nat) : 0 ≤ sd2 s r q j ∧ sd2 s r q j < 256 := by
  unfold sd2
  split
  · exact sd1_bd hs hr j
  · exact bt_bd q _

theorem flip_any (i n p : Int) (w : World) (h0 : 0 ≤ i) (h1 : i < n) (hn : n ≤ 4294967296) (p0 : 0 ≤ p) (p1 : p < n) :
    Calls Tryd.prog 39 #[.int .u64 i, .int .u64 n, .int .u64 p] w fun e w' => e = .returned (.int .u64 (fl i n p)) ∧ w' = w := by
  go_enter Tryd.func39, Tryd.ntmps39
  go_wp2
  go_ret
  exact ⟨ret_int rfl, rfl⟩

/-- Is it a place? -/
def isP (i n : Int) : Bool := decide (n ≤ 4294967296) && decide (i < n)

theorem isplace_any (i n : Int) (w : World) :
    Calls Tryd.prog 44 #[.int .u64 i, .int .u64 n] w fun e w' => e = .returned (.bool (isP i n)) ∧ w' = w := by
  by_cases h : n ≤ 4294967296
  · by_cases h2 : i < n
    all_goals
      have e : isP i n = decide (i < n) := by unfold isP; simp [h]
      have E := hid e
      clear e
      go_enter Tryd.func44, Tryd.ntmps44
      go_wp2
      go_ret
      exact ⟨ret_bool (by rw [E.out]; simp [h2]), rfl⟩
  · have e : isP i n = false := by unfold isP; simp [h]
    have E := hid e
    clear e
    go_enter Tryd.func44, Tryd.ntmps44
    go_wp2
    go_ret
    exact ⟨ret_bool (by rw [E.out]), rfl⟩

theorem and_bitU (x : Int) (hx : 0 ≤ x) (hx' : x < 256) : bits .and .u8 x 1 = x % 2 := by
  obtain ⟨x, rfl⟩ := Int.eq_ofNat_of_zero_le hx
  have h := u8_and_nat x 1 (by omega) (by omega)
  have e : x &&& 1 = x % 2 := Nat.and_one_is_mod x
  rw [e] at h
  have h' : bits .and .u8 (x : Int) 1 = ((x % 2 : Nat) : Int) := h
  rw [h']
  omega

theorem shr_bd (x : Int) (k : Nat) (h0 : 0 ≤ x) (h1 : x < 256) : 0 ≤ x / 2 ^ k ∧ x / 2 ^ k < 256 := by
  have hp : (0 : Int) < 2 ^ k := Int.pow_pos (by decide)
  refine ⟨Int.ediv_nonneg h0 (by omega), ?_⟩
  have := Int.ediv_le_self (2 ^ k) h0
  omega

theorem bit_eq (f : Nat → Int) (p : Int) (hf : ∀ j, j < 32 → 0 ≤ f j ∧ f j < 256) (h0 : 0 ≤ p) (K : Nat) (hK : K = (p % 8).toNat) : (bits .and .u8 (f (p % 256 / 8).toNat / 2 ^ K) 1 == 1) = bitB f p := by
  subst hK
  have hj : (p % 256 / 8).toNat < 32 := by omega
  have hb := hf _ hj
  have hs := shr_bd _ (p % 8).toNat hb.1 hb.2
  rw [and_bitU _ hs.1 hs.2]
  unfold bitB
  rw [Bool.eq_iff_iff]
  simp

attribute [local go_sem ↓] sv24_eq lv24_eq sv8_eq

set_option maxRecDepth 20000 in
set_option maxHeartbeats 1000000 in
theorem isset_any (f : Nat → Int) (p : Int) (w : World) (hf : ∀ j, j < 32 → 0 ≤ f j ∧ f j < 256) (h0 : 0 ≤ p) (h1 : p < 18446744073709551616) :
    Calls Tryd.prog 40 #[.agg (vs .u8 32 f), .int .u64 p] w fun e w' => e = .returned (.bool (bitB f p)) ∧ Below w.heap.size w w' := by
  obtain ⟨J, hJ⟩ : ∃ J : Nat, p % 256 / 8 = (J : Int) := ⟨(p % 256 / 8).toNat, by omega⟩
  obtain ⟨K, hK⟩ : ∃ K : Nat, p % 256 % 8 = (K : Int) := ⟨(p % 256 % 8).toNat, by omega⟩
  have hJ' : J < 32 := by omega
  have hK' : K < 8 := by omega
  have hb := bit_eq f p hf h0 K (by omega)
  rw [hJ, Int.toNat_natCast] at hb
  have HB := hid hb
  have hfj := hf J hJ'
  obtain ⟨W, hW⟩ : ∃ W, w.alloc (.cells (vs .u8 32 f) 24) = W := ⟨_, rfl⟩
  have r0 : W.heap[w.heap.size]? = some (.cells (vs .u8 32 f) 24) := by rw [← hW]; exact heap_new rfl
  have hB : Below w.heap.size w W := by rw [← hW]; exact (Below.refl _ _).alloc (Nat.le_refl _) _
  have c0 := row_int r0 J hJ'
  have HBE := hid hB
  have j1 : (0 : Int) ≤ (J : Int) := by omega
  have j2 : (J : Int) < 32 := by omega
  have k1 : (0 : Int) ≤ (K : Int) := by omega
  have k2 : (K : Int) < 8 := by omega
  have HW := hid hW
  clear hb hf r0 hB hW
  go_enter Tryd.func40, Tryd.ntmps40
  go_upto_region 1 with fail
  rw [HW.out]
  clear HW
  go_wp2
  go_ret
  exact ⟨ret_bool HB.out, HBE.out⟩

end Go.Proofs.YtlidilnakiphiaaDoor

namespace Go.Proofs.YtlidilnakiphiaaDoor

open Go.RowKit

set_option linter.unusedVariables false

set_option linter.unusedSimpArgs false

theorem wpList_append_is {P : Program} {ops : Array Oper} {rest : List Oper} {o : Oper} {a : Act} {w : World} {Q : Exit → Act → World → Prop} (hgd : o.guard = none) (s x : Operand)
    (ho : o.op = .call { callee := .builtin .append, args := #[s, x], argTypes := #[39, 39] }) (ws wx v : Value) (w' : World) (hs : a.eval s = ws) (hx : a.eval x = wx)
    (hrun : (ap22 o.type ws wx).run P w = .ok v w') (h : wpList P ops Q rest (a.put o.dst v) w') : wpList P ops Q (o :: rest) a w :=
  wpList_plain hgd fun K hK => wp_append_is s x ho ws wx v w' hs hx hrun (hK _ _ h)

theorem sum_own {m : Nat → Int} {L g C B : Nat} {w : World} (hS : Sh w) (ho : w.ownsRow B 5 1 (.slice (some ⟨g, 0, none⟩) L C) L (bl m L)) (hr : ∀ j, j < L → 0 ≤ m j ∧ m j < 256) (hL : L < 1152921504606846976) :
    Calls Tryd.prog 26 #[.slice (some ⟨g, 0, none⟩) L C] w fun e w' => e = .returned (.agg (vs .u8 32 (shaV KW HW m L))) ∧ Below w.heap.size w w' := by
  obtain ⟨h1, h2, h3, h4, h5⟩ := own_cells ho
  exact sum_any KW HW m L C g 0 w hS.1 hS.2 HW_bd (fun j hj => by rw [Nat.zero_add]; exact h5 j hj) hr h2 hL h3 h4

theorem grown_below {B : Nat} {W w' : World} (hg : W.grownBy w' none) (hB : B ≤ W.heap.size) : Below B W w' :=
  ⟨hg.os, hg.tape, hg.output, hg.size, fun k hk => hg.block k (by omega) (fun e => by cases e)⟩

theorem bl_add (m c : Nat → Int) (n k : Nat) (hm : ∀ j, j < k → m (n + j) = c j) : bl m n ++ bl c k = bl m (n + k) := by
  unfold bl
  rw [List.range_add, List.map_append, List.map_map]
  congr 1
  refine List.map_congr_left fun j hj => ?_
  show Value.int .u8 (c j) = Value.int .u8 (m (n + j))
  rw [hm j (List.mem_range.1 hj)]

/-- The round behind the seed. -/
theorem ap_seed (W : World) (b : Nat) (s : Nat → Int) (r : Int) (hb : ∀ j, j < 32 → W.cell? ⟨b, j, none⟩ = some (.int .u8 (s j))) (hl : b < W.heap.size) (ty : TypeId) :
    ∃ g C w', (ap22 ty (.slice (some ⟨b, 0, none⟩) 32 32) (.slice (some ⟨W.heap.size, 0, none⟩) 1 1)).run Tryd.prog (W.alloc (.cells #[.int .u8 r] 5)) = .ok (.slice (some ⟨g, 0, none⟩) 33 C) w' ∧ w'.ownsRow W.heap.size 5 1 (.slice (some ⟨g, 0, none⟩) 33 C) 33 (bl (sd1 s r) 33) ∧ Below W.heap.size W w' := by
  obtain ⟨i, hi, hz0, hz1, hz2⟩ := info_parts info8
  have hB : Below W.heap.size W (W.alloc (.cells #[.int .u8 r] 5)) := (Below.refl _ _).alloc (Nat.le_refl _) _
  obtain ⟨v', w', hr, ho, hg⟩ := run_append_arg_grows (P := Tryd.prog) (W.alloc (.cells #[.int .u8 r] 5)) 39 ty 5 i (.int .u8 0) 1 1 Tryd.underlying39 hi hz0 hz1 hz2 rfl (by decide) ⟨b, 0, none⟩ 32 32 (bl s 32) (by rw [bl_len])
    (fun j u hj => by
      obtain ⟨h1, rfl⟩ := bl_get s 32 j u hj
      rw [addr_add, Nat.zero_add, below_cell hB hl]
      exact hb j h1) ⟨W.heap.size, 0, none⟩ 1 1 [.int .u8 r] rfl (cell_one_new _ _ _) (by omega) (by unfold maxLen; omega) (by omega)
  have e : bl s 32 ++ [.int .u8 r] = bl (sd1 s r) 33 := by
    rw [bl_congr (m := s) (m' := sd1 s r) (fun j hj => by unfold sd1; rw [if_pos hj])]
    exact bl_snoc (sd1 s r) 32 r (by unfold sd1; rw [if_neg (by omega)])
  rw [e] at ho
  obtain ⟨g, C, rfl⟩ := owns_pos ho (by omega)
  exact ⟨g, C, w', hr, ho.mono (by simp), hB.trans (grown_below hg (by simp))⟩

/-- Four bytes of a number behind a row of one's own. -/
theorem ap_four (W : World) (B g C n b : Nat) (m c : Nat → Int) (ho : W.ownsRow B 5 1 (.slice (some ⟨g, 0, none⟩) n C) n (bl m n)) (hb : ∀ j, j < 4 → W.cell? ⟨b, j, none⟩ = some (.int .u8 (c j))) (hm : ∀ j, j < 4 → m (n + j) = c j) (hB : B ≤ W.heap.size) (hn : n ≤ 64) (ty : TypeId) :
    ∃ g' C' w', (ap22 ty (.slice (some ⟨g, 0, none⟩) n C) (.slice (some ⟨b, 0, none⟩) 4 8)).run Tryd.prog W = .ok (.slice (some ⟨g', 0, none⟩) (n + 4) C') w' ∧ w'.ownsRow B 5 1 (.slice (some ⟨g', 0, none⟩) (n + 4) C') (n + 4) (bl m (n + 4)) ∧ Below B W w' := by
  obtain ⟨i, hi, hz0, hz1, hz2⟩ := info_parts info8
  obtain ⟨v', w', hr, ho', hg, _⟩ := run_append_own_at (P := Tryd.prog) W B 39 ty 5 i (.int .u8 0) 1 1 Tryd.underlying39 hi hz0 hz1 hz2 rfl (by decide) _ n (bl m n) ho ⟨b, 0, none⟩ 4 8 (bl c 4) (by rw [bl_len])
    (fun j u hj => by
      obtain ⟨h1, rfl⟩ := bl_get c 4 j u hj
      rw [addr_add, Nat.zero_add]
      exact hb j h1) (bl_one c 4) (by unfold maxLen; omega) (by omega) hB
  rw [bl_add m c n 4 hm] at ho'
  obtain ⟨g', C', rfl⟩ := owns_pos ho' (by omega)
  exact ⟨g', C', w', hr, ho', below_grown (Below.refl _ _) ho hB hg⟩

attribute [local go_sem ↓] sv24_eq lv24_eq sv8_eq

set_option maxRecDepth 20000 in
set_option maxHeartbeats 1000000 in
theorem pivot_any (s : Nat → Int) (r n : Int) (w : World) (hs : ∀ j, j < 32 → 0 ≤ s j ∧ s j < 256) (hr : 0 ≤ r ∧ r < 256) (hn : 0 < n) (hn2 : n < 18446744073709551616) (hS : Sh w) :
    Calls Tryd.prog 37 #[.int .u64 n, .agg (vs .u8 32 s), .int .u8 r] w fun e w' => e = .returned (.int .u64 (pv s r n)) ∧ Below w.heap.size w w' := by
  obtain ⟨W0, hW0⟩ : ∃ W, w.alloc (.cells (vs .u8 32 s) 24) = W := ⟨_, rfl⟩
  have r0 : W0.heap[w.heap.size]? = some (.cells (vs .u8 32 s) 24) := by rw [← hW0]; exact heap_new rfl
  have hB0 : Below w.heap.size w W0 := by rw [← hW0]; exact (Below.refl _ _).alloc (Nat.le_refl _) _
  have z0 : w.heap.size < W0.heap.size := (Array.getElem?_eq_some_iff.1 r0).1
  have hap := ap_seed W0 w.heap.size s r (fun j hj => row_int r0 j hj) z0
  obtain ⟨X, hX⟩ : ∃ X, shaV KW HW (sd1 s r) 33 = X := ⟨_, rfl⟩
  have hb := pvN_bd s r
  have e0 : pvN s r = num8 (X 0) (X 1) (X 2) (X 3) (X 4) (X 5) (X 6) (X 7) := by unfold pvN; rw [hX]
  have hXb : ∀ j, 0 ≤ X j ∧ X j ≤ 255 := fun j => by have := shaV_bd KW HW (sd1 s r) 33 j; rw [hX] at this; omega
  obtain ⟨P, hP⟩ : ∃ P, pvN s r = P := ⟨_, rfl⟩
  have hsum : ∀ (W : World) g C, Below w.heap.size w W → W.ownsRow W0.heap.size 5 1 (.slice (some ⟨g, 0, none⟩) 33 C) 33 (bl (sd1 s r) 33) → Calls Tryd.prog 26 #[.slice (some ⟨g, 0, none⟩) 33 C] W fun e w' => e = .returned (.agg (vs .u8 32 X)) ∧ Below W.heap.size W w' := fun W g C h1 h2 => by
    rw [← hX]
    exact sum_own (hS.below h1) h2 (fun j _ => sd1_bd hs hr j) (by omega)
  have hread : ∀ (W : World) b t, W.heap[b]? = some (.cells (vs .u8 32 X) t) → Calls Tryd.prog 46 #[.slice (some ⟨b, 0, none⟩) 8 32] W fun e w' => e = .returned (.tuple #[.int .u64 P, .int .i64 0]) ∧ w' = W := fun W b t h => by
    rw [← hP, e0]
    exact read8 b 0 32 _ _ _ _ _ _ _ _ W (row_int h 0 (by omega)) (hXb 0).1 (hXb 0).2 (row_int h 1 (by omega)) (hXb 1).1 (hXb 1).2 (row_int h 2 (by omega)) (hXb 2).1 (hXb 2).2 (row_int h 3 (by omega)) (hXb 3).1 (hXb 3).2 (row_int h 4 (by omega)) (hXb 4).1 (hXb 4).2 (row_int h 5 (by omega)) (hXb 5).1 (hXb 5).2 (row_int h 6 (by omega)) (hXb 6).1 (hXb 6).2 (row_int h 7 (by omega)) (hXb 7).1 (hXb 7).2
  have ev : pv s r n = P % n := by unfold pv; rw [hP]
  rw [hP] at hb
  obtain ⟨p0, p1⟩ := hb
  have v24 := fun W => sv24_newv W (fun _ => 0) X
  have z := zero_root
  have EV := hid ev
  have HAP := hid hap
  have HSUM := hid hsum
  have HREAD := hid hread
  have HB0 := hid hB0
  have HW0 := hid hW0
  clear ev hap hsum hread hB0 hW0 r0 e0 hXb hP hX hs hr hS
  go_enter Tryd.func37, Tryd.ntmps37
  go_upto_region 1 with fail
  rw [HW0.out]
  clear HW0
  go_upto_region 2 with (first
    | (at_builtin; obtain ⟨g1, C1, w1, hap1, ho1, hb1⟩ := HAP.out 39; refine wpList_append_is rfl _ _ rfl _ _ _ _ rfl rfl hap1 ?_)
    | (go_at_call 26; refine (HSUM.out w1 g1 C1 (HB0.out.trans (hb1.mono (by omega))) ho1).mono ?_; rintro e w2 ⟨rfl, hb2⟩))
  obtain ⟨W3, hW3⟩ : ∃ W, w2.alloc (.cells (vs .u8 32 X) 24) = W := ⟨_, rfl⟩
  have hz1 := hb1.size
  have r3 : W3.heap[w2.heap.size]? = some (.cells (vs .u8 32 X) 24) := by rw [← hW3]; exact heap_new rfl
  have hB3 : Below w.heap.size w W3 := by rw [← hW3]; exact (HB0.out.trans ((hb1.mono (by omega)).trans (hb2.mono (by omega)))).alloc (by have := hb2.size; omega) _
  rw [hW3]
  obtain ⟨y, ey⟩ : ∃ y, w2.heap.size = y := ⟨_, rfl⟩
  rw [ey] at r3 ⊢
  have HR3 := hid r3
  have HB3 := hid hB3
  clear r3 hB3 hW3 ey hb1 hb2 hz1 ho1 hap1 v24 z HAP HSUM HB0
  go_wp2_with (go_at_call 46; refine (HREAD.out _ _ _ HR3.out).mono ?_; rintro e w4 ⟨rfl, hw4⟩; obtain rfl := hw4.symm)
  go_ret
  exact ⟨ret_int EV.out.symm, HB3.out⟩

set_option maxRecDepth 20000 in
set_option maxHeartbeats 1000000 in
theorem source_any (s : Nat → Int) (r p : Int) (w : World) (hs : ∀ j, j < 32 → 0 ≤ s j ∧ s j < 256) (hr : 0 ≤ r ∧ r < 256) (h0 : 0 ≤ p) (h1 : p < 18446744073709551616) (hS : Sh w) :
    Calls Tryd.prog 38 #[.int .u64 p, .agg (vs .u8 32 s), .int .u8 r] w fun e w' => e = .returned (.agg (vs .u8 32 (srcV s r (p / 256)))) ∧ Below w.heap.size w w' := by
  obtain ⟨W0, hW0⟩ : ∃ W, (w.alloc (.cells (vs .u8 32 s) 24)).alloc (.cells (vs .u8 32 fun _ => 0) 24) = W := ⟨_, rfl⟩
  have r0 : W0.heap[w.heap.size]? = some (.cells (vs .u8 32 s) 24) := by rw [← hW0]; exact (heap_old (by simp)).trans (heap_new rfl)
  have r1 : W0.heap[w.heap.size + 1]? = some (.cells (vs .u8 32 fun _ => 0) 24) := by rw [← hW0]; exact heap_new (by simp)
  have hB0 : Below w.heap.size w W0 := by rw [← hW0]; exact ((Below.refl _ _).alloc (Nat.le_refl _) _).alloc (by simp) _
  have z0 : w.heap.size + 1 < W0.heap.size := (Array.getElem?_eq_some_iff.1 r1).1
  obtain ⟨Q, hQ⟩ : ∃ Q, p / 256 = Q := ⟨_, rfl⟩
  have q0 : 0 ≤ Q := by omega
  have q1 : Q < 18446744073709551616 := by omega
  have hbt := fun W : World => bytesU_any Q W q0 q1
  obtain ⟨X, hX⟩ : ∃ X, srcV s r Q = X := ⟨_, rfl⟩
  have hsum : ∀ (W : World) g C, Below w.heap.size w W → W.ownsRow W0.heap.size 5 1 (.slice (some ⟨g, 0, none⟩) 37 C) 37 (bl (sd2 s r Q) 37) → Calls Tryd.prog 26 #[.slice (some ⟨g, 0, none⟩) 37 C] W fun e w' => e = .returned (.agg (vs .u8 32 X)) ∧ Below W.heap.size W w' := fun W g C h1 h2 => by
    rw [← hX]
    exact sum_own (hS.below h1) h2 (fun j _ => sd2_bd hs hr Q j) (by omega)
  have v8 := fun W => sv8_newv W (fun _ => 0) (bt Q)
  have z := zero_8
  have zr := zero_root
  rw [hQ, hX]
  have HSUM := hid hsum
  have HBT := hid hbt
  have HB0 := hid hB0
  have HW0 := hid hW0
  have HR0 := hid (And.intro r0 r1)
  clear hsum hbt hB0 hW0 r0 r1 hs hr hS hX
  go_enter Tryd.func38, Tryd.ntmps38
  go_upto_region 1 with fail
  rw [HW0.out]
  clear HW0
  go_upto_region 2 with (go_at_call 25; refine (HBT.out W0).mono ?_; rintro e w1 ⟨rfl, hb1⟩)
  obtain ⟨W2, hW2⟩ : ∃ W, w1.alloc (.cells (vs .u8 8 (bt Q)) 77) = W := ⟨_, rfl⟩
  rw [hW2]
  have hz1 := hb1.size
  have rn : W2.heap[w1.heap.size]? = some (.cells (vs .u8 8 (bt Q)) 77) := by rw [← hW2]; exact heap_new rfl
  have hD2 : Below W0.heap.size W0 W2 := by rw [← hW2]; exact hb1.alloc hz1 _
  have hB2 : Below w.heap.size w W2 := HB0.out.trans (hD2.mono (by omega))
  have rs := (hD2.block w.heap.size (by omega)).trans HR0.out.1
  have rr := (hD2.block (w.heap.size + 1) (by omega)).trans HR0.out.2
  have zn : w1.heap.size < W2.heap.size := (Array.getElem?_eq_some_iff.1 rn).1
  obtain ⟨y, ey⟩ : ∃ y, w1.heap.size = y := ⟨_, rfl⟩
  rw [ey] at rn zn hz1 ⊢
  have zs : w.heap.size < W2.heap.size := by omega
  have zr2 : w.heap.size + 1 < W2.heap.size := by omega
  have hap1 : ∀ W, Below W2.heap.size W2 W → ∀ ty, ∃ g C w', (ap22 ty (.slice (some ⟨w.heap.size, 0, none⟩) 32 32) (.slice (some ⟨W.heap.size, 0, none⟩) 1 1)).run Tryd.prog (W.alloc (.cells #[.int .u8 r] 5)) = .ok (.slice (some ⟨g, 0, none⟩) 33 C) w' ∧ w'.ownsRow W2.heap.size 5 1 (.slice (some ⟨g, 0, none⟩) 33 C) 33 (bl (sd1 s r) 33) ∧ Below W2.heap.size W w' := fun W hW ty => by
    have hz := hW.size
    obtain ⟨g, C, w', h1, h2, h3⟩ := ap_seed W w.heap.size s r (fun j hj => row_int ((hW.block _ zs).trans rs) j hj) (by omega) ty
    exact ⟨g, C, w', h1, h2.mono hz, h3.mono hz⟩
  have hap2 : ∀ (W : World) g C, Below W2.heap.size W2 W → W.ownsRow W2.heap.size 5 1 (.slice (some ⟨g, 0, none⟩) 33 C) 33 (bl (sd1 s r) 33) → ∀ ty, ∃ g' C' w', (ap22 ty (.slice (some ⟨g, 0, none⟩) 33 C) (.slice (some ⟨y, 0, none⟩) 4 8)).run Tryd.prog W = .ok (.slice (some ⟨g', 0, none⟩) 37 C') w' ∧ w'.ownsRow W0.heap.size 5 1 (.slice (some ⟨g', 0, none⟩) 37 C') 37 (bl (sd2 s r Q) 37) ∧ Below W2.heap.size W w' := fun W g C hW ho ty => by
    rw [bl_congr (m := sd1 s r) (m' := sd2 s r Q) (fun j hj => by unfold sd2; rw [if_pos hj])] at ho
    obtain ⟨g', C', w', h1, h2, h3⟩ := ap_four W W2.heap.size g C 33 y (sd2 s r Q) (bt Q) ho (fun j hj => row_int ((hW.block _ zn).trans rn) j (by omega)) (fun j hj => by unfold sd2; rw [if_neg (by omega), show 33 + j - 33 = j by omega]) hW.size (by omega) ty
    exact ⟨g', C', w', h1, h2.mono (by omega), h3⟩
  have HAP1 := hid hap1
  have HAP2 := hid hap2
  have HB2 := hid hB2
  have HD2 := hid (Below.refl W2.heap.size W2)
  have hdr : Below W2.heap.size W2 W2.drew := (Below.refl _ _).drew
  have HDR := hid hdr
  have HZR := hid zr2
  clear HR0
  have HR0 := hid rr
  clear hap1 hap2 hB2 hdr zr2 rr rs rn zn zs hD2 hW2 ey hb1 hz1 HB0 HBT v8 z zr
  refine wp_region_noPanic ?_
  refine wp_region_held_drew (S := fun _ => True) (by kernel_rfl) (trivial) (fun hHeld => ?_)
  refine tk 0 (v := ?v1) ?y1 hHeld ?r1
  case y1 => intro w hSw; go_simp; try with_reducible rfl
  refine tk 1 (v := ?v2) ?y2 hHeld ?r2
  case y2 => intro w hSw; go_simp; try with_reducible rfl
  refine tk 4 (v := ?v3) ?y3 hHeld ?r3
  case y3 => intro w hSw; go_simp; try with_reducible rfl
  try simp only [Act.put, List.setIfInBounds_toArray, List.set_cons_zero, List.set_cons_succ, Array.toArray_toList, List.getElem_toArray, List.getElem_cons_zero, List.getElem_cons_succ]
  refine wpAnyH_ready (rs := [2]) (by kernel_rfl) (by simp) ?_
  refine AllReadyH.cons rfl (fun K hK => ?_) AllReadyH.nil
  go_simp
  refine hK.out _ _ (trivial) (fun hHeld => ?_)
  clear hK K
  try simp only [Act.put, List.setIfInBounds_toArray, List.set_cons_zero, List.set_cons_succ, Array.toArray_toList, List.getElem_toArray, List.getElem_cons_zero, List.getElem_cons_succ]
  refine wpAnyH_ready (rs := [3]) (by kernel_rfl) (by simp) ?_
  refine AllReadyH.cons rfl (fun K hK => ?_) AllReadyH.nil
  obtain ⟨g1, C1, w1, hap1, ho1, hb1⟩ := HAP1.out _ HD2.out.drew 39
  refine wp_append_is _ _ rfl _ _ _ _ rfl rfl hap1 ?_
  replace hb1 : Below W2.heap.size W2 w1 := HDR.out.trans hb1
  refine hK.out _ _ (trivial) (fun hHeld => ?_)
  clear hK K
  try simp only [Act.put, List.setIfInBounds_toArray, List.set_cons_zero, List.set_cons_succ, Array.toArray_toList, List.getElem_toArray, List.getElem_cons_zero, List.getElem_cons_succ]
  refine wpAnyH_ready (rs := [5]) (by kernel_rfl) (by simp) ?_
  refine AllReadyH.cons rfl (fun K hK => ?_) AllReadyH.nil
  obtain ⟨g3, C3, w3, hap3, ho3, hb3⟩ := HAP2.out w1 g1 C1 hb1 ho1 39
  refine wp_append_is _ _ rfl _ _ _ _ rfl rfl hap3 ?_
  replace hb3 : Below W2.heap.size W2 w3 := hb1.trans hb3
  refine hK.out _ _ (trivial) (fun hHeld => ?_)
  clear hK K
  try simp only [Act.put, List.setIfInBounds_toArray, List.set_cons_zero, List.set_cons_succ, Array.toArray_toList, List.getElem_toArray, List.getElem_cons_zero, List.getElem_cons_succ]
  refine wpAnyH_ready (rs := [6]) (by kernel_rfl) (by simp) ?_
  refine AllReadyH.cons rfl (fun K hK => ?_) AllReadyH.nil
  go_simp
  refine (HSUM.out w3 g3 C3 (HB2.out.trans (hb3.mono HB2.out.size)) ho3).mono ?_
  rintro e w4 ⟨rfl, hb4⟩
  dsimp only
  replace hb4 : Below W2.heap.size W2 w4 := hb3.trans (hb4.mono hb3.size)
  have r4 := (hb4.block _ HZR.out).trans HR0.out
  refine hK.out _ _ (trivial) (fun hHeld => ?_)
  clear hK K
  try simp only [Act.put, List.setIfInBounds_toArray, List.set_cons_zero, List.set_cons_succ, Array.toArray_toList, List.getElem_toArray, List.getElem_cons_zero, List.getElem_cons_succ]
  refine wpAnyH_ready (rs := [7]) (by kernel_rfl) (by simp) ?_
  refine AllReadyH.cons rfl (fun K hK => ?_) AllReadyH.nil
  have v4 := sv24_run r4 X
  go_simp
  refine hK.out _ _ (trivial) (fun hHeld => ?_)
  clear hK K
  try simp only [Act.put, List.setIfInBounds_toArray, List.set_cons_zero, List.set_cons_succ, Array.toArray_toList, List.getElem_toArray, List.getElem_cons_zero, List.getElem_cons_succ]
  refine wpAnyH_done (by kernel_rfl) ?_ _
  refine NoPanic.normal ?_
  go_wp2
  have hz4 := HB2.out.size
  refine ret24 6 (w.heap.size + 1) X 24 rfl rfl rfl (setRow_at r4) ⟨rfl, ?_⟩
  exact below_row (HB2.out.trans (hb4.mono hz4)) (by omega) _

set_option maxRecDepth 20000 in
set_option maxHeartbeats 1000000 in
theorem round_any (s : Nat → Int) (r n i : Int) (w : World) (hs : ∀ j, j < 32 → 0 ≤ s j ∧ s j < 256) (hr : 0 ≤ r ∧ r < 256) (h0 : 0 ≤ i) (h1 : i < n) (hn : n ≤ 4294967296) (hS : Sh w) :
    Calls Tryd.prog 45 #[.int .u64 i, .int .u64 n, .agg (vs .u8 32 s), .int .u8 r] w fun e w' => e = .returned (.int .u64 (rdV s r n i)) ∧ Below w.heap.size w w' := by
  obtain ⟨W0, hW0⟩ : ∃ W, w.alloc (.cells (vs .u8 32 s) 24) = W := ⟨_, rfl⟩
  have r0 : W0.heap[w.heap.size]? = some (.cells (vs .u8 32 s) 24) := by rw [← hW0]; exact heap_new rfl
  have hB0 : Below w.heap.size w W0 := by rw [← hW0]; exact (Below.refl _ _).alloc (Nat.le_refl _) _
  have z0 : w.heap.size < W0.heap.size := (Array.getElem?_eq_some_iff.1 r0).1
  have hpb := pv_bd s r (n := n) (by omega)
  have hp := pivot_any s r n W0 hs hr (by omega) (by omega) (hS.below hB0)
  have hev : rdV s r n i = rdX (rdB s r) (pv s r n) n i := rfl
  obtain ⟨P, hP⟩ : ∃ P, pv s r n = P := ⟨_, rfl⟩
  rw [hP] at hp hpb hev
  obtain ⟨p0, p1⟩ := hpb
  have hf := fun W : World => flip_any i n P W h0 h1 hn p0 p1
  obtain ⟨f0, f1⟩ := fl_bd h0 h1 p0 p1
  have hev2 : rdV s r n i = if rdB s r (mx i (fl i n P)) = true then fl i n P else i := hev
  obtain ⟨F, hF⟩ : ∃ F, fl i n P = F := ⟨_, rfl⟩
  rw [hF] at hf f0 f1 hev2
  obtain ⟨M, hM⟩ : ∃ M, mx i F = M := ⟨_, rfl⟩
  rw [hM] at hev2
  have m0 : 0 ≤ M ∧ M < 4294967296 := by rw [← hM]; unfold mx; split <;> omega
  obtain ⟨m0, m1⟩ := m0
  have hmx : (if i < F then F else i) = M := hM
  have hso : ∀ W : World, Below W0.heap.size W0 W → Calls Tryd.prog 38 #[.int .u64 M, .agg (vs .u8 32 s), .int .u8 r] W fun e w' => e = .returned (.agg (vs .u8 32 (srcV s r (M / 256)))) ∧ Below W.heap.size W w' := fun W h => source_any s r M W hs hr m0 (by omega) ((hS.below hB0).below h)
  have his := fun W : World => isset_any (srcV s r (M / 256)) M W (fun j _ => shaV_bd ..) m0 (by omega)
  obtain ⟨X, hX⟩ : ∃ X, srcV s r (M / 256) = X := ⟨_, rfl⟩
  have hbit : rdB s r M = bitB X M := by unfold rdB; rw [hX]
  rw [hX] at hso his
  rw [hbit] at hev2
  obtain ⟨b, hb⟩ : ∃ b, bitB X M = b := ⟨_, rfl⟩
  rw [hb] at his hev2
  have hl : ∀ W : World, Below W0.heap.size W0 W → (lv24 ⟨w.heap.size, 0, none⟩).run Tryd.prog W = .ok (.agg (vs .u8 32 s)) W := fun W h => lv24_run ((h.block _ z0).trans r0)
  have l0 := hl W0 (Below.refl _ _)
  have EV := hid hev2
  have HP := hid hp
  have HFL := hid hf
  have HSO := hid hso
  have HIS := hid his
  have HL := hid hl
  have HB0 := hid hB0
  have HW0 := hid hW0
  clear hp hf hso his hl hB0 hW0 r0 hs hr hS hP hF hM hX hbit hb hev hev2
  by_cases hlt : i < F
  · rw [if_pos hlt] at hmx
    subst hmx
    go_enter Tryd.func45, Tryd.ntmps45
    go_upto_region 1 with fail
    rw [HW0.out]
    clear HW0
    go_upto_region 2 with (first
      | (go_at_call 37; refine HP.out.mono ?_; rintro e w1 ⟨rfl, hb1⟩)
      | (go_at_call 39; refine (HFL.out _).mono ?_; rintro e w2 ⟨rfl, hw2⟩; obtain rfl := hw2.symm))
    have l1 := HL.out w1 hb1
    have z1 := hb1.size
    clear l0
    cases b
    all_goals
      go_wp2_with (first
        | (go_at_call 38; refine (HSO.out w1 hb1).mono ?_; rintro e w3 ⟨rfl, hb3⟩)
        | (go_at_call 40; refine (HIS.out _).mono ?_; rintro e w4 ⟨rfl, hb4⟩))
      go_ret
      have z3 := hb3.size
      exact ⟨ret_int (by rw [EV.out]; simp), HB0.out.trans ((hb1.mono (by omega)).trans ((hb3.mono (by omega)).trans (hb4.mono (by omega))))⟩
  · rw [if_neg hlt] at hmx
    subst hmx
    go_enter Tryd.func45, Tryd.ntmps45
    go_upto_region 1 with fail
    rw [HW0.out]
    clear HW0
    go_upto_region 2 with (first
      | (go_at_call 37; refine HP.out.mono ?_; rintro e w1 ⟨rfl, hb1⟩)
      | (go_at_call 39; refine (HFL.out _).mono ?_; rintro e w2 ⟨rfl, hw2⟩; obtain rfl := hw2.symm))
    have l1 := HL.out w1 hb1
    have z1 := hb1.size
    clear l0
    cases b
    all_goals
      go_wp2_with (first
        | (go_at_call 38; refine (HSO.out w1 hb1).mono ?_; rintro e w3 ⟨rfl, hb3⟩)
        | (go_at_call 40; refine (HIS.out _).mono ?_; rintro e w4 ⟨rfl, hb4⟩))
      go_ret
      have z3 := hb3.size
      exact ⟨ret_int (by rw [EV.out]; simp), HB0.out.trans ((hb1.mono (by omega)).trans ((hb3.mono (by omega)).trans (hb4.mono (by omega))))⟩

end Go.Proofs.YtlidilnakiphiaaDoor

namespace Go.Proofs.YtlidilnakiphiaaDoor

open Go.RowKit

set_option linter.unusedVariables false

set_option linter.unusedSimpArgs false

/-- A place behind the first k rounds, and behind k rounds the other way round. -/
def plV (s : Nat → Int) (n : Int) : Nat → Int → Int
  | 0, i => i
  | k + 1, i => rdV s (k : Int) n (plV s n k i)

def bkV (s : Nat → Int) (n : Int) : Nat → Int → Int
  | 0, i => i
  | k + 1, i => rdV s (5 - (k : Int)) n (bkV s n k i)

theorem plV_bd (s : Nat → Int) {n i : Int} (h0 : 0 ≤ i) (h1 : i < n) (k : Nat) : 0 ≤ plV s n k i ∧ plV s n k i < n := by
  induction k with
  | zero => exact ⟨h0, h1⟩
  | succ k ih => exact rdV_bd s _ ih.1 ih.2

theorem bkV_bd (s : Nat → Int) {n i : Int} (h0 : 0 ≤ i) (h1 : i < n) (k : Nat) : 0 ≤ bkV s n k i ∧ bkV s n k i < n := by
  induction k with
  | zero => exact ⟨h0, h1⟩
  | succ k ih => exact rdV_bd s _ ih.1 ih.2

theorem bk_pl (s : Nat → Int) {n i : Int} (h0 : 0 ≤ i) (h1 : i < n) : bkV s n 6 (plV s n 6 i) = i := by
  have p := fun k => plV_bd s h0 h1 k
  have e : ∀ k : Nat, k < 6 → rdV s (k : Int) n (plV s n (k + 1) i) = plV s n k i := fun k _ => rdV_rdV s _ (p k).1 (p k).2
  show rdV s 0 n (rdV s 1 n (rdV s 2 n (rdV s 3 n (rdV s 4 n (rdV s 5 n (plV s n 6 i)))))) = i
  have e5 : rdV s 5 n (plV s n 6 i) = plV s n 5 i := e 5 (by omega)
  have e4 : rdV s 4 n (plV s n 5 i) = plV s n 4 i := e 4 (by omega)
  have e3 : rdV s 3 n (plV s n 4 i) = plV s n 3 i := e 3 (by omega)
  have e2 : rdV s 2 n (plV s n 3 i) = plV s n 2 i := e 2 (by omega)
  have e1 : rdV s 1 n (plV s n 2 i) = plV s n 1 i := e 1 (by omega)
  have e0 : rdV s 0 n (plV s n 1 i) = plV s n 0 i := e 0 (by omega)
  rw [e5, e4, e3, e2, e1, e0]
  rfl

theorem pl_bk (s : Nat → Int) {n i : Int} (h0 : 0 ≤ i) (h1 : i < n) : plV s n 6 (bkV s n 6 i) = i := by
  have p := fun k => bkV_bd s h0 h1 k
  have e : ∀ k : Nat, k < 6 → rdV s (5 - (k : Int)) n (bkV s n (k + 1) i) = bkV s n k i := fun k _ => rdV_rdV s _ (p k).1 (p k).2
  show rdV s 5 n (rdV s 4 n (rdV s 3 n (rdV s 2 n (rdV s 1 n (rdV s 0 n (bkV s n 6 i)))))) = i
  have e5 : rdV s 0 n (bkV s n 6 i) = bkV s n 5 i := e 5 (by omega)
  have e4 : rdV s 1 n (bkV s n 5 i) = bkV s n 4 i := e 4 (by omega)
  have e3 : rdV s 2 n (bkV s n 4 i) = bkV s n 3 i := e 3 (by omega)
  have e2 : rdV s 3 n (bkV s n 3 i) = bkV s n 2 i := e 2 (by omega)
  have e1 : rdV s 4 n (bkV s n 2 i) = bkV s n 1 i := e 1 (by omega)
  have e0 : rdV s 5 n (bkV s n 1 i) = bkV s n 0 i := e 0 (by omega)
  rw [e5, e4, e3, e2, e1, e0]
  rfl

theorem isP_true {i n : Int} (h1 : i < n) (hn : n ≤ 4294967296) : isP i n = true := by unfold isP; simp [h1, hn]

attribute [local go_sem ↓] sv24_eq lv24_eq sv8_eq

set_option maxRecDepth 20000 in
set_option maxHeartbeats 1000000 in
theorem place_ok (s : Nat → Int) (i n : Int) (w : World) (hs : ∀ j, j < 32 → 0 ≤ s j ∧ s j < 256) (h0 : 0 ≤ i) (h1 : i < n) (hn : n ≤ 4294967296) (hS : Sh w) :
    Calls Tryd.prog 36 #[.int .u64 i, .int .u64 n, .agg (vs .u8 32 s)] w fun e w' => e = .returned (.tuple #[.int .u64 (plV s n 6 i), .int .i64 0]) ∧ Below w.heap.size w w' := by
  obtain ⟨W0, hW0⟩ : ∃ W, w.alloc (.cells (vs .u8 32 s) 24) = W := ⟨_, rfl⟩
  have r0 : W0.heap[w.heap.size]? = some (.cells (vs .u8 32 s) 24) := by rw [← hW0]; exact heap_new rfl
  have hB0 : Below w.heap.size w W0 := by rw [← hW0]; exact (Below.refl _ _).alloc (Nat.le_refl _) _
  have z0 : w.heap.size < W0.heap.size := (Array.getElem?_eq_some_iff.1 r0).1
  have hi := fun W : World => isplace_any i n W
  rw [isP_true h1 hn] at hi
  have hrd : ∀ (k : Nat) (x : Int) (W : World), k < 6 → 0 ≤ x → x < n → Below W0.heap.size W0 W → Calls Tryd.prog 45 #[.int .u64 x, .int .u64 n, .agg (vs .u8 32 s), .int .u8 (k : Int)] W fun e w' => e = .returned (.int .u64 (rdV s (k : Int) n x)) ∧ Below W.heap.size W w' :=
    fun k x W hk x0 x1 hW => round_any s k n x W hs (by omega) x0 x1 hn ((hS.below hB0).below hW)
  have hl : ∀ W : World, Below W0.heap.size W0 W → (lv24 ⟨w.heap.size, 0, none⟩).run Tryd.prog W = .ok (.agg (vs .u8 32 s)) W := fun W h => lv24_run ((h.block _ z0).trans r0)
  have hpl := fun k => plV_bd s h0 h1 k
  have HI := hid hi
  have HRD := hid hrd
  have HL := hid hl
  have HPL := hid hpl
  have HB0 := hid hB0
  have HW0 := hid hW0
  clear hi hrd hl hpl hB0 hW0 r0 hs hS
  go_enter Tryd.func36, Tryd.ntmps36
  go_upto_region 1 with fail
  rw [HW0.out]
  clear HW0
  go_wp2_with (go_at_call 44; refine (HI.out _).mono ?_; rintro e w' ⟨rfl, hw'⟩; obtain rfl := hw'.symm)
  go_loopw [13, 0] (fun c x wr => ∃ k : Nat, k ≤ 6 ∧ c = .int .i64 k ∧ x = .int .u64 (plV s n k i) ∧ Below W0.heap.size W0 wr) (fun c _ _ => 6 - (intOf c).toNat)
  case atStart => exact ⟨0, by omega, rfl, rfl, Below.refl _ _⟩
  case round =>
    obtain ⟨k, hk, rfl, rfl, hw⟩ := hrel
    obtain ⟨b0, b1⟩ := HPL.out k
    have er : plV s n (k + 1) i = rdV s (k : Int) n (plV s n k i) := rfl
    obtain ⟨X, hX⟩ : ∃ X, plV s n k i = X := ⟨_, rfl⟩
    by_cases hk6 : k < 6
    · rw [hX] at b0 b1 er ⊢
      have hc := HRD.out k X wr hk6 b0 b1 hw
      have l0 := HL.out wr hw
      have k1 : (k : Int) < 6 := by omega
      have k2 : (0 : Int) ≤ (k : Int) := by omega
      have kw : IntKind.u8.wrap (k : Int) = (k : Int) := by rw [IntKind.wrap_u8]; omega
      have HC := hid hc
      have HW := hid hw
      have ER := hid er
      clear hc hw er hX
      go_wp2_with (go_at_call 45; refine HC.out.mono ?_; rintro e w1 ⟨rfl, hb1⟩)
      have hz := HW.out.size
      go_roundw
      case rel => exact ⟨k + 1, by omega, by go_num, by rw [ER.out], HW.out.trans (hb1.mono hz)⟩
      case measure => simp [intOf]; omega
    · obtain rfl : k = 6 := by omega
      have HW := hid hw
      clear hw er hX
      go_wp2
      go_ret2
      exact ⟨rfl, HB0.out.trans (HW.out.mono (by omega))⟩

end Go.Proofs.YtlidilnakiphiaaDoor
