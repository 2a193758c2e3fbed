/-
  What the small functions of package shuf answer: flipOf, isPlace, isSet, pivotOf, sourceOf, afterRound.
-/

import Derived.Test.YtenhgoclfljjlaaDoorVfA
import Derived.Test.YtenhgoclfljjlaaDoorVfP
import Derived.Test.YtenhgoclfljjlaaDoorLkM
import Derived.ArgAppend

import Derived.Laws.BitsAllLaws

import Derived.Deep.WholeRow

import Derived.Deep.RegionHeld3

namespace Go.Proofs.YtenhgoclfljjlaaDoor

open Go.RowKit

set_option linter.unusedVariables false

set_option linter.unusedSimpArgs false

/-- The seed and the round; the four bytes behind them. -/
def sd1 (s : Nat → Int) (r : Int) (j : Nat) : Int := if j < 32 then s j else r

def sd2 (s : Nat → Int) (r q : Int) (j : Nat) : Int := if j < 33 then sd1 s r j else bt q (j - 33)

/-- A round's pivot. -/
def pvN (s : Nat → Int) (r : Int) : Int := num8 (shaV KW HW (sd1 s r) 33 0) (shaV KW HW (sd1 s r) 33 1) (shaV KW HW (sd1 s r) 33 2) (shaV KW HW (sd1 s r) 33 3) (shaV KW HW (sd1 s r) 33 4) (shaV KW HW (sd1 s r) 33 5) (shaV KW HW (sd1 s r) 33 6) (shaV KW HW (sd1 s r) 33 7)

def pv (s : Nat → Int) (r n : Int) : Int := pvN s r % n

theorem num8_bd {z0 z1 z2 z3 z4 z5 z6 z7 : Int} (h0 : 0 ≤ z0 ∧ z0 < 256) (h1 : 0 ≤ z1 ∧ z1 < 256) (h2 : 0 ≤ z2 ∧ z2 < 256) (h3 : 0 ≤ z3 ∧ z3 < 256) (h4 : 0 ≤ z4 ∧ z4 < 256) (h5 : 0 ≤ z5 ∧ z5 < 256) (h6 : 0 ≤ z6 ∧ z6 < 256) (h7 : 0 ≤ z7 ∧ z7 < 256) : 0 ≤ num8 z0 z1 z2 z3 z4 z5 z6 z7 ∧ num8 z0 z1 z2 z3 z4 z5 z6 z7 < 18446744073709551616 := by
  unfold num8
  omega

theorem pvN_bd (s : Nat → Int) (r : Int) : 0 ≤ pvN s r ∧ pvN s r < 18446744073709551616 := num8_bd (shaV_bd ..) (shaV_bd ..) (shaV_bd ..) (shaV_bd ..) (shaV_bd ..) (shaV_bd ..) (shaV_bd ..) (shaV_bd ..)

theorem pv_bd (s : Nat → Int) (r : Int) {n : Int} (h : 0 < n) : 0 ≤ pv s r n ∧ pv s r n < n := ⟨Int.emod_nonneg _ (by omega), Int.emod_lt_of_pos _ h⟩

/-- The source of a place's bits. -/
def srcV (s : Nat → Int) (r q : Int) : Nat → Int := shaV KW HW (sd2 s r q) 37

/-- A source's bit for a place. -/
def bitB (f : Nat → Int) (p : Int) : Bool := decide (f (p % 256 / 8).toNat / 2 ^ (p % 8).toNat % 2 = 1)

def rdB (s : Nat → Int) (r : Int) (p : Int) : Bool := bitB (srcV s r (p / 256)) p

/-- A place behind a round. -/
def rdV (s : Nat → Int) (r n i : Int) : Int := rdX (rdB s r) (pv s r n) n i

theorem rdV_bd (s : Nat → Int) (r : Int) {n i : Int} (h0 : 0 ≤ i) (h1 : i < n) : 0 ≤ rdV s r n i ∧ rdV s r n i < n :=
  rdX_bd _ h0 h1 (pv_bd s r (by omega)).1 (pv_bd s r (by omega)).2

theorem rdV_rdV (s : Nat → Int) (r : Int) {n i : Int} (h0 : 0 ≤ i) (h1 : i < n) : rdV s r n (rdV s r n i) = i :=
  rdX_rdX _ h0 h1 (pv_bd s r (by omega)).1 (pv_bd s r (by omega)).2

theorem sd1_bd {s : Nat → Int} {r : Int} (hs : ∀ j, j < 32 → 0 ≤ s j ∧ s j < 256) (hr : 0 ≤ r ∧ r < 256) (j : Nat) : 0 ≤ sd1 s r j ∧ sd1 s r j < 256 := by
  unfold sd1
  split
  · exact hs j ‹_›
  · exact hr

theorem bt_bd (n : Int) (j : Nat) : 0 ≤ bt n j ∧ bt n j < 256 := by
  unfold bt
  split <;> exact ⟨Int.emod_nonneg _ (by decide), Int.emod_lt_of_pos _ (by decide)⟩

theorem sd2_bd {s : Nat → Int} {r : Int} (hs : ∀ j, j < 32 → 0 ≤ s j ∧ s j < 256) (hr : 0 ≤ r ∧ r < 256) (q : Int) (j : Nat) : 0 ≤ sd2 s r q j ∧ sd2 s r q j < 256 := by
  unfold sd2
  split
  · exact sd1_bd hs hr j
  · exact bt_bd q _

theorem flip_any (i n p : Int) (w : World) (h0 : 0 ≤ i) (h1 : i < n) (hn : n ≤ 4294967296) (p0 : 0 ≤ p) (p1 : p < n) :
    Calls Tryd.prog 42 #[.int .u64 i, .int .u64 n, .int .u64 p] w fun e w' => e = .returned (.int .u64 (fl i n p)) ∧ w' = w := by
  go_enter Tryd.func42, Tryd.ntmps42
  go_wp2
  go_ret
  exact ⟨ret_int rfl, rfl⟩

theorem and_bitU (x : Int) (hx : 0 ≤ x) (hx' : x < 256) : bits .and .u8 x 1 = x % 2 := by
  obtain ⟨x, rfl⟩ := Int.eq_ofNat_of_zero_le hx
  have h := u8_and_nat x 1 (by omega) (by omega)
  have e : x &&& 1 = x % 2 := Nat.and_one_is_mod x
  rw [e] at h
  have h' : bits .and .u8 (x : Int) 1 = ((x % 2 : Nat) : Int) := h
  rw [h']
  omega

theorem shr_bd (x : Int) (k : Nat) (h0 : 0 ≤ x) (h1 : x < 256) : 0 ≤ x / 2 ^ k ∧ x / 2 ^ k < 256 := by
  have hp : (0 : Int) < 2 ^ k := Int.pow_pos (by decide)
  refine ⟨Int.ediv_nonneg h0 (by omega), ?_⟩
  have := Int.ediv_le_self (2 ^ k) h0
  omega

theorem bit_eq (f : Nat → Int) (p : Int) (hf : ∀ j, j < 32 → 0 ≤ f j ∧ f j < 256) (h0 : 0 ≤ p) (K : Nat) (hK : K = (p % 8).toNat) : (bits .and .u8 (f (p % 256 / 8).toNat / 2 ^ K) 1 == 1) = bitB f p := by
  subst hK
  have hj : (p % 256 / 8).toNat < 32 := by omega
  have hb := hf _ hj
  have hs := shr_bd _ (p % 8).toNat hb.1 hb.2
  rw [and_bitU _ hs.1 hs.2]
  unfold bitB
  rw [Bool.eq_iff_iff]
  simp

attribute [local go_sem ↓] sv24_eq lv24_eq sv8_eq

set_option maxRecDepth 20000 in
set_option maxHeartbeats 1000000 in
theorem isset_any (f : Nat → Int) (p : Int) (w : World) (hf : ∀ j, j < 32 → 0 ≤ f j ∧ f j < 256) (h0 : 0 ≤ p) (h1 : p < 18446744073709551616) :
    Calls Tryd.prog 43 #[.agg (vs .u8 32 f), .int .u64 p] w fun e w' => e = .returned (.bool (bitB f p)) ∧ Below w.heap.size w w' := by
  obtain ⟨J, hJ⟩ : ∃ J : Nat, p % 256 / 8 = (J : Int) := ⟨(p % 256 / 8).toNat, by omega⟩
  obtain ⟨K, hK⟩ : ∃ K : Nat, p % 256 % 8 = (K : Int) := ⟨(p % 256 % 8).toNat, by omega⟩
  have hJ' : J < 32 := by omega
  have hK' : K < 8 := by omega
  have hb := bit_eq f p hf h0 K (by omega)
  rw [hJ, Int.toNat_natCast] at hb
  have HB := hid hb
  have hfj := hf J hJ'
  obtain ⟨W, hW⟩ : ∃ W, w.alloc (.cells (vs .u8 32 f) 24) = W := ⟨_, rfl⟩
  have r0 : W.heap[w.heap.size]? = some (.cells (vs .u8 32 f) 24) := by rw [← hW]; exact heap_new rfl
  have hB : Below w.heap.size w W := by rw [← hW]; exact (Below.refl _ _).alloc (Nat.le_refl _) _
  have c0 := row_int r0 J hJ'
  have HBE := hid hB
  have j1 : (0 : Int) ≤ (J : Int) := by omega
  have j2 : (J : Int) < 32 := by omega
  have k1 : (0 : Int) ≤ (K : Int) := by omega
  have k2 : (K : Int) < 8 := by omega
  have HW := hid hW
  clear hb hf r0 hB hW
  go_enter Tryd.func43, Tryd.ntmps43
  go_upto_region 1 with fail
  rw [HW.out]
  clear HW
  go_wp2
  go_ret
  exact ⟨ret_bool HB.out, HBE.out⟩

end Go.Proofs.YtenhgoclfljjlaaDoor
