/-
  Plain facts: a number of three halves of a word, divided by one of two halves, by guessing a quotient and lowering it (as bits.Div64 does).
-/
import Derived.Test.YtbilbiehgagfkaaNum
namespace Go.Proofs.Ytbilbiehgagfkaa
open Go.RowKit

/-- What holds of the guess q and its rest r: the guess is not below the quotient, and at most two above. -/
def KI (U Y1 Y0 D q r : Int) : Prop :=
  (U * 4294967296 + D) / (Y1 * 4294967296 + Y0) ≤ q ∧ q ≤ 4294967297 ∧ r = U - q * Y1 ∧ 0 ≤ r ∧ r < 4294967296 ∧ 0 ≤ q

/-- What is asked of the numbers. -/
structure KN (U Y1 Y0 D : Int) : Prop where
  y1 : 2147483648 ≤ Y1
  y1' : Y1 < 4294967296
  y0 : 0 ≤ Y0
  y0' : Y0 < 4294967296
  u : 0 ≤ U
  u' : U < Y1 * 4294967296 + Y0
  d : 0 ≤ D
  d' : D < 4294967296

variable {U Y1 Y0 D q r : Int}

theorem kn_quo (h : KN U Y1 Y0 D) : 0 ≤ (U * 4294967296 + D) / (Y1 * 4294967296 + Y0) ∧ (U * 4294967296 + D) / (Y1 * 4294967296 + Y0) < 4294967296 := by
  obtain ⟨a, b, c, d, e, f, g, i⟩ := h
  refine ⟨Int.ediv_nonneg (by omega) (by omega), ?_⟩
  rw [Int.ediv_lt_iff_lt_mul (by omega)]
  omega

theorem kn_start (h : KN U Y1 Y0 D) : KI U Y1 Y0 D (U / Y1) (U % Y1) := by
  obtain ⟨a, b, c, d, e, f, g, i⟩ := h
  have h1 := Int.lt_ediv_add_one_mul_self U (by omega : 0 < Y1)
  have h0 : 0 ≤ U / Y1 := Int.ediv_nonneg e (by omega)
  have hm := Int.emod_add_mul_ediv U Y1
  have hm0 := Int.emod_nonneg U (by omega : Y1 ≠ 0)
  have hm1 := Int.emod_lt_of_pos U (by omega : 0 < Y1)
  refine ⟨?_, ?_, ?_, hm0, by omega, h0⟩
  · have : (U * 4294967296 + D) / (Y1 * 4294967296 + Y0) < U / Y1 + 1 := by
      rw [Int.ediv_lt_iff_lt_mul (by omega), Int.mul_add, ← Int.mul_assoc]
      have z : 0 ≤ (U / Y1 + 1) * Y0 := Int.mul_nonneg (by omega) c
      omega
    omega
  · have : U / Y1 < 4294967298 := by
      rw [Int.ediv_lt_iff_lt_mul (by omega)]
      omega
    omega
  · rw [Int.mul_comm] at hm
    omega

theorem kn_big (h : KN U Y1 Y0 D) (hq : 4294967296 ≤ q) : (U * 4294967296 + D) / (Y1 * 4294967296 + Y0) < q := by
  have := kn_quo h
  omega

theorem kn_over (h : KN U Y1 Y0 D) (k : KI U Y1 Y0 D q r) (ho : 4294967296 * r + D < q * Y0) : (U * 4294967296 + D) / (Y1 * 4294967296 + Y0) < q := by
  obtain ⟨a, b, c, d, e, f, g, i⟩ := h
  obtain ⟨_, _, k3, _⟩ := k
  rw [Int.ediv_lt_iff_lt_mul (by omega), Int.mul_add, ← Int.mul_assoc]
  omega

theorem kn_next (h : KN U Y1 Y0 D) (k : KI U Y1 Y0 D q r) (hl : (U * 4294967296 + D) / (Y1 * 4294967296 + Y0) < q) (hr : r + Y1 < 4294967296) : KI U Y1 Y0 D (q - 1) (r + Y1) := by
  have hz := kn_quo h
  obtain ⟨a, b, c, d, e, f, g, i⟩ := h
  obtain ⟨k1, k2, k3, k4, k5, k6⟩ := k
  refine ⟨by omega, by omega, ?_, by omega, hr, by omega⟩
  rw [Int.sub_mul]
  omega

theorem kn_break (h : KN U Y1 Y0 D) (k : KI U Y1 Y0 D q r) (hl : (U * 4294967296 + D) / (Y1 * 4294967296 + Y0) < q) (hr : 4294967296 ≤ r + Y1) : q = (U * 4294967296 + D) / (Y1 * 4294967296 + Y0) + 1 := by
  have hz := kn_quo h
  obtain ⟨a, b, c, d, e, f, g, i⟩ := h
  obtain ⟨k1, k2, k3, k4, k5, k6⟩ := k
  have hle : q - 1 ≤ (U * 4294967296 + D) / (Y1 * 4294967296 + Y0) := by
    rw [Int.le_ediv_iff_mul_le (by omega), Int.mul_add, ← Int.mul_assoc]
    have z : (q - 1) * Y0 ≤ 4294967296 * 4294967295 := Int.mul_le_mul (by omega) (by omega) c (by omega)
    have e2 : (q - 1) * Y1 = q * Y1 - Y1 := by rw [Int.sub_mul]; omega
    omega
  omega

theorem kn_done (h : KN U Y1 Y0 D) (k : KI U Y1 Y0 D q r) (ho : q * Y0 ≤ 4294967296 * r + D) : q = (U * 4294967296 + D) / (Y1 * 4294967296 + Y0) := by
  obtain ⟨a, b, c, d, e, f, g, i⟩ := h
  obtain ⟨k1, k2, k3, k4, k5, k6⟩ := k
  have hle : q ≤ (U * 4294967296 + D) / (Y1 * 4294967296 + Y0) := by
    rw [Int.le_ediv_iff_mul_le (by omega), Int.mul_add, ← Int.mul_assoc]
    omega
  omega

/-- The ways of a round. -/
theorem kn_ways (kn : KN U Y1 Y0 D) (k : KI U Y1 Y0 D q r) : (4294967296 ≤ q ∧ r + Y1 < 4294967296 ∧ KI U Y1 Y0 D (q - 1) (r + Y1)) ∨ (q < 4294967296 ∧ 4294967296 * r + D < q * Y0 ∧ r + Y1 < 4294967296 ∧ KI U Y1 Y0 D (q - 1) (r + Y1)) ∨
    (4294967296 ≤ q ∧ 4294967296 ≤ r + Y1 ∧ q = (U * 4294967296 + D) / (Y1 * 4294967296 + Y0) + 1) ∨ (q < 4294967296 ∧ 4294967296 * r + D < q * Y0 ∧ 4294967296 ≤ r + Y1 ∧ q = (U * 4294967296 + D) / (Y1 * 4294967296 + Y0) + 1) ∨
    (q < 4294967296 ∧ q * Y0 ≤ 4294967296 * r + D ∧ q = (U * 4294967296 + D) / (Y1 * 4294967296 + Y0)) := by
  by_cases c1 : 4294967296 ≤ q
  · have hl := kn_big kn c1
    by_cases c2 : r + Y1 < 4294967296
    · exact Or.inl ⟨c1, c2, kn_next kn k hl c2⟩
    · exact Or.inr (Or.inr (Or.inl ⟨c1, by omega, kn_break kn k hl (by omega)⟩))
  · by_cases c2 : 4294967296 * r + D < q * Y0
    · have hl := kn_over kn k c2
      by_cases c3 : r + Y1 < 4294967296
      · exact Or.inr (Or.inl ⟨by omega, c2, c3, kn_next kn k hl c3⟩)
      · exact Or.inr (Or.inr (Or.inr (Or.inl ⟨by omega, c2, by omega, kn_break kn k hl (by omega)⟩)))
    · exact Or.inr (Or.inr (Or.inr (Or.inr ⟨by omega, by omega, kn_done kn k (by omega)⟩)))

/-- The guess's product with the lower half does not wrap where the guess is below 2^32. -/
theorem kn_prod (h : KN U Y1 Y0 D) (hq : 0 ≤ q) (hq' : q < 4294967296) : 0 ≤ q * Y0 ∧ q * Y0 < 18446744073709551616 := by
  have z : q * Y0 ≤ 4294967295 * 4294967295 := Int.mul_le_mul (by omega) (by have := h.y0'; omega) h.y0 (by omega)
  exact ⟨Int.mul_nonneg hq h.y0, by omega⟩

/-- How the first guess stands in the program. -/
theorem kn_first (h : KN U Y1 Y0 D) : IntKind.u64.wrap (U.tdiv Y1) = U / Y1 ∧ IntKind.u64.wrap (U / Y1 * Y1) = U / Y1 * Y1 ∧ IntKind.u64.wrap (U - U / Y1 * Y1) = U % Y1 := by
  have hY := h.u'
  obtain ⟨a, b, c, d, e, f, g, i⟩ := h
  have h0 : 0 ≤ U / Y1 := Int.ediv_nonneg e (by omega)
  have hm := Int.emod_add_mul_ediv U Y1
  have hm0 := Int.emod_nonneg U (by omega : Y1 ≠ 0)
  have hm1 := Int.emod_lt_of_pos U (by omega : 0 < Y1)
  have hle : U / Y1 ≤ U := Int.ediv_le_self _ e
  rw [Int.mul_comm Y1] at hm
  have hp : 0 ≤ U / Y1 * Y1 := Int.mul_nonneg h0 (by omega)
  rw [Int.tdiv_eq_ediv_of_nonneg e, IntKind.wrap_u64, IntKind.wrap_u64, IntKind.wrap_u64]
  refine ⟨?_, ?_, ?_⟩ <;> omega

/-- The rest behind a digit. -/
theorem kn_rest (h : KN U Y1 Y0 D) : IntKind.u64.wrap (IntKind.u64.wrap (IntKind.u64.wrap (U * 4294967296) + D) - IntKind.u64.wrap ((U * 4294967296 + D) / (Y1 * 4294967296 + Y0) * (Y1 * 4294967296 + Y0))) = (U * 4294967296 + D) % (Y1 * 4294967296 + Y0) := by
  obtain ⟨a, b, c, d, e, f, g, i⟩ := h
  have hm := Int.emod_add_mul_ediv (U * 4294967296 + D) (Y1 * 4294967296 + Y0)
  have hm0 := Int.emod_nonneg (U * 4294967296 + D) (by omega : Y1 * 4294967296 + Y0 ≠ 0)
  have hm1 := Int.emod_lt_of_pos (U * 4294967296 + D) (by omega : 0 < Y1 * 4294967296 + Y0)
  rw [Int.mul_comm (Y1 * 4294967296 + Y0)] at hm
  generalize (U * 4294967296 + D) / (Y1 * 4294967296 + Y0) * (Y1 * 4294967296 + Y0) = Z at *
  generalize (U * 4294967296 + D) % (Y1 * 4294967296 + Y0) = R at *
  rw [IntKind.wrap_u64, IntKind.wrap_u64, IntKind.wrap_u64, IntKind.wrap_u64]
  omega

theorem kn_second {E : Int} (h : KN U Y1 Y0 D) (he : 0 ≤ E) (he' : E < 4294967296) : KN ((U * 4294967296 + D) % (Y1 * 4294967296 + Y0)) Y1 Y0 E := by
  have hm0 := Int.emod_nonneg (U * 4294967296 + D) (by have := h.y1; have := h.y0; omega : Y1 * 4294967296 + Y0 ≠ 0)
  have hm1 := Int.emod_lt_of_pos (U * 4294967296 + D) (by have := h.y1; have := h.y0; omega : 0 < Y1 * 4294967296 + Y0)
  obtain ⟨a, b, c, d, e, f, g, i⟩ := h
  exact ⟨a, b, c, d, hm0, hm1, he, he'⟩

/-- Two digits make the quotient. -/
theorem kn_both {E : Int} (h : KN U Y1 Y0 D) (he : 0 ≤ E) (he' : E < 4294967296) :
    IntKind.u64.wrap (IntKind.u64.wrap ((U * 4294967296 + D) / (Y1 * 4294967296 + Y0) * 4294967296) + ((U * 4294967296 + D) % (Y1 * 4294967296 + Y0) * 4294967296 + E) / (Y1 * 4294967296 + Y0)) =
      (U * 18446744073709551616 + D * 4294967296 + E) / (Y1 * 4294967296 + Y0) := by
  have q1 := kn_quo h
  have q0 := kn_quo (kn_second h he he')
  have hm := Int.emod_add_mul_ediv (U * 4294967296 + D) (Y1 * 4294967296 + Y0)
  have hp : 0 < Y1 * 4294967296 + Y0 := by have := h.y1; have := h.y0; omega
  have e : U * 18446744073709551616 + D * 4294967296 + E = (U * 4294967296 + D) % (Y1 * 4294967296 + Y0) * 4294967296 + E + (Y1 * 4294967296 + Y0) * ((U * 4294967296 + D) / (Y1 * 4294967296 + Y0) * 4294967296) := by
    rw [← Int.mul_assoc]
    omega
  rw [e, Int.add_mul_ediv_left _ _ (by omega), IntKind.wrap_u64, IntKind.wrap_u64]
  omega

theorem and_low (x : Int) (hx : 0 ≤ x) (hx' : x < 18446744073709551616) : bits .and .u64 x 4294967295 = x % 4294967296 := by
  obtain ⟨x, rfl⟩ := Int.eq_ofNat_of_zero_le hx
  have h := bits_and_u64_nat x 4294967295 (by omega) (by omega)
  have e : x &&& 4294967295 = x % 4294967296 := Nat.and_two_pow_sub_one_eq_mod x 32
  rw [e] at h
  have h' : bits .and .u64 (x : Int) 4294967295 = ((x % 4294967296 : Nat) : Int) := h
  rw [h']
  omega

theorem or_up (hi l : Int) (s : Nat) (hh : 0 ≤ hi) (hl : 0 ≤ l) (hl' : l < 2 ^ s) (h : hi * 2 ^ s + l < 18446744073709551616) :
    bits .or .u64 (hi * 2 ^ s) l = hi * 2 ^ s + l := by
  obtain ⟨hi, rfl⟩ := Int.eq_ofNat_of_zero_le hh
  obtain ⟨l, rfl⟩ := Int.eq_ofNat_of_zero_le hl
  have ep : ((2 ^ s : Nat) : Int) = (2 : Int) ^ s := by simp
  have e : (hi : Int) * 2 ^ s = ((2 ^ s * hi : Nat) : Int) := by rw [Int.natCast_mul, ep, Int.mul_comm]
  rw [e] at h ⊢
  rw [← ep] at hl'
  rw [or_nat s hi l (by omega) (by omega)]
  omega

/-- The numbers, moved up by s bits. -/
theorem kn_shift (hi lo y : Int) (s : Nat) (hs : s ≤ 63) (hh : 0 ≤ hi) (hl : 0 ≤ lo) (hl' : lo < 18446744073709551616) (hy : hi < y)
    (ht : 9223372036854775808 ≤ y * 2 ^ s) (ht' : y * 2 ^ s < 18446744073709551616) :
    ∃ U Y1 Y0 D E, KN U Y1 Y0 D ∧ 0 ≤ E ∧ E < 4294967296 ∧
      IntKind.u64.wrap (y * 2 ^ s) = Y1 * 4294967296 + Y0 ∧ (Y1 * 4294967296 + Y0) / 4294967296 = Y1 ∧ bits .and .u64 (Y1 * 4294967296 + Y0) 4294967295 = Y0 ∧
      bits .or .u64 (IntKind.u64.wrap (hi * 2 ^ s)) (lo / 2 ^ (64 - s)) = U ∧
      IntKind.u64.wrap (lo * 2 ^ s) = D * 4294967296 + E ∧ (D * 4294967296 + E) / 4294967296 = D ∧ bits .and .u64 (D * 4294967296 + E) 4294967295 = E ∧
      (U * 18446744073709551616 + D * 4294967296 + E) / (Y1 * 4294967296 + Y0) = (hi * 18446744073709551616 + lo) / y := by
  have hp : (0 : Int) < 2 ^ s := Int.pow_pos (by decide)
  have hp' : (0 : Int) < 2 ^ (64 - s) := Int.pow_pos (by decide)
  have hpp : (2 : Int) ^ s * 2 ^ (64 - s) = 18446744073709551616 := by
    rw [← Int.pow_add, show s + (64 - s) = 64 by omega]; rfl
  have hL0 : 0 ≤ lo / 2 ^ (64 - s) := Int.ediv_nonneg hl (by omega)
  have hL1 : lo / 2 ^ (64 - s) < 2 ^ s := by
    rw [Int.ediv_lt_iff_lt_mul hp', hpp]; exact hl'
  have hH : hi * 2 ^ s + 2 ^ s ≤ y * 2 ^ s := by
    have : (hi + 1) * 2 ^ s ≤ y * 2 ^ s := Int.mul_le_mul_of_nonneg_right (by omega) (by omega)
    rw [Int.add_mul] at this
    omega
  have hH0 : 0 ≤ hi * 2 ^ s := Int.mul_nonneg hh (by omega)
  have w1 : IntKind.u64.wrap (hi * 2 ^ s) = hi * 2 ^ s := by rw [IntKind.wrap_u64]; omega
  have ho := or_up hi (lo / 2 ^ (64 - s)) s hh hL0 hL1 (by omega)
  have hm := Int.emod_add_mul_ediv lo (2 ^ (64 - s))
  have hm0 := Int.emod_nonneg lo (by omega : (2 : Int) ^ (64 - s) ≠ 0)
  have hm1 := Int.emod_lt_of_pos lo hp'
  have hV : lo * 2 ^ s = lo % 2 ^ (64 - s) * 2 ^ s + 18446744073709551616 * (lo / 2 ^ (64 - s)) := by
    conv => lhs; rw [← hm]
    rw [Int.add_mul, ← hpp]
    congr 1
    ac_rfl
  have hV0 : 0 ≤ lo % 2 ^ (64 - s) * 2 ^ s := Int.mul_nonneg hm0 (by omega)
  have hV1 : lo % 2 ^ (64 - s) * 2 ^ s < 18446744073709551616 := by
    rw [← hpp, Int.mul_comm]
    exact Int.mul_lt_mul_of_pos_left hm1 hp
  have hq : ((hi * 2 ^ s + lo / 2 ^ (64 - s)) * 18446744073709551616 + lo % 2 ^ (64 - s) * 2 ^ s) / (y * 2 ^ s) = (hi * 18446744073709551616 + lo) / y := by
    rw [← Int.mul_ediv_mul_of_pos_left (hi * 18446744073709551616 + lo) y hp]
    congr 1
    rw [Int.add_mul _ lo, hV, Int.mul_right_comm hi]
    omega
  rw [w1, ho]
  have w2 : IntKind.u64.wrap (lo * 2 ^ s) = lo % 2 ^ (64 - s) * 2 ^ s := by rw [IntKind.wrap_u64]; omega
  rw [w2]
  have w3 : IntKind.u64.wrap (y * 2 ^ s) = y * 2 ^ s := by rw [IntKind.wrap_u64]; omega
  rw [w3]
  have hW0 : 0 ≤ hi * 2 ^ s + lo / 2 ^ (64 - s) := by omega
  have hW1 : hi * 2 ^ s + lo / 2 ^ (64 - s) < y * 2 ^ s := by omega
  generalize lo % 2 ^ (64 - s) * 2 ^ s = V at *
  generalize y * 2 ^ s = Y at *
  generalize hi * 2 ^ s + lo / 2 ^ (64 - s) = W at *
  have aY := and_low Y (by omega) (by omega)
  have aV := and_low V (by omega) (by omega)
  have eY : Y / 4294967296 * 4294967296 + Y % 4294967296 = Y := by omega
  have eV : V / 4294967296 * 4294967296 + V % 4294967296 = V := by omega
  refine ⟨W, Y / 4294967296, Y % 4294967296, V / 4294967296, V % 4294967296, ⟨?_, ?_, ?_, ?_, ?_, ?_, ?_, ?_⟩, ?_, ?_, ?_, ?_, ?_, rfl, ?_, ?_, ?_, ?_⟩
  all_goals first | omega | (rw [eY]; exact aY) | (rw [eV]; exact aV) | (rw [eY, Int.add_assoc, eV]; exact hq)

end Go.Proofs.Ytbilbiehgagfkaa
