/-
  Plain facts on float64: whole numbers up to 2^53 are held exactly, and their sums are exact.
-/
import Derived.WalkKit
import Derived.WalkLawsBesides
import Derived.Laws.FloatArith
import Derived.Laws.ComplexArith
namespace Go.Proofs.Ytbilbiehgagfkaa
open Go.RowKit Ieee

/-- The digits and the place of the word of a whole number up to 2^53. -/
def fMag (v : Nat) : Nat := if v = 0 then 0 else if v.log2 ≤ 52 then v * 2 ^ (52 - v.log2) else 4503599627370496
def fPlace (v : Nat) : Int := if v = 0 then -1074 else if v.log2 ≤ 52 then (v.log2 : Int) - 52 else 1

theorem log2_bds (v : Nat) (hv : v ≠ 0) : 2 ^ v.log2 ≤ v ∧ v < 2 ^ (v.log2 + 1) := ⟨Nat.log2_self_le hv, Nat.lt_log2_self⟩

theorem log2_53 (v : Nat) (hv : v ≤ 9007199254740992) : v.log2 ≤ 52 ∨ v = 9007199254740992 := by
  by_cases h0 : v = 0
  · subst h0; left; decide
  · obtain ⟨h1, h2⟩ := log2_bds v h0
    by_cases h : v.log2 ≤ 52
    · exact Or.inl h
    · right
      have : 2 ^ 53 ≤ 2 ^ v.log2 := Nat.pow_le_pow_right (by decide) (by omega)
      omega

theorem log2_mul_pow (v j : Nat) (hv : v ≠ 0) : (v * 2 ^ j).log2 = v.log2 + j := by
  obtain ⟨h1, h2⟩ := log2_bds v hv
  have hp := Nat.two_pow_pos j
  have h0 : v * 2 ^ j ≠ 0 := Nat.mul_ne_zero hv (by omega)
  rw [Nat.log2_eq_iff h0]
  constructor
  · rw [Nat.pow_add]; exact Nat.mul_le_mul_right _ h1
  · rw [Nat.add_right_comm, Nat.pow_add]; exact Nat.mul_lt_mul_of_pos_right h2 hp

theorem cut_exact (neg : Bool) (x d : Nat) (hd : d ≤ (x * 2 ^ d).log2 + 2) : Toward.even.cut neg (x * 2 ^ d) d = x := by
  unfold Toward.cut
  simp only [Nat.shiftLeft_eq, Nat.one_mul]
  rw [Nat.min_eq_left hd]
  have hp := Nat.two_pow_pos d
  rw [Nat.mul_div_cancel _ hp, Nat.mul_mod_left]
  have h1 : ¬ 2 ^ d < 2 * 0 := by omega
  have h2 : (2 ^ d == 2 * 0) = false := by simp
  simp

theorem double_least : double.leastPlace = -1074 := by decide
theorem double_binade : double.binade = 4503599627370496 := by decide
theorem double_inf : double.infRung = 2047 * 4503599627370496 := by decide
theorem double_sign : double.signWeight = 9223372036854775808 := by decide
theorem double_frac : double.fractionBits = 52 := rfl

theorem gen_nearest (f : Format) (m : Nat) (p l : Int) (hm : m ≠ 0) (hl : max (p + m.log2 - f.fractionBits) f.leastPlace = l) :
    f.nearest false m p = min ((l - f.leastPlace).toNat * f.binade + Toward.even.cut false (m <<< (p - l).toNat) (l - p).toNat) f.infRung := by
  subst hl
  unfold Format.nearest
  rw [if_neg hm]
  rfl

theorem double_nearest (m : Nat) (p l : Int) (hm : m ≠ 0) (hl : max (p + m.log2 - 52) (-1074) = l) :
    double.nearest false m p = min ((l + 1074).toNat * 4503599627370496 + Toward.even.cut false (m <<< (p - l).toNat) (l - p).toNat) (2047 * 4503599627370496) := by
  rw [gen_nearest double m p l hm (by rw [double_frac, double_least]; exact hl), double_least, double_binade, double_inf, Int.sub_neg]

theorem min_rung (n x : Nat) (hn : n ≤ 1075) (hx : x ≤ 9007199254740992) : min (n * 4503599627370496 + x) (2047 * 4503599627370496) = n * 4503599627370496 + x := Nat.min_eq_left (by omega)
theorem toNat_le {a : Int} {n : Nat} (h : a ≤ n) : a.toNat ≤ n := by omega

theorem nearest_val (v j : Nat) (hv : v ≠ 0) (hv' : v ≤ 9007199254740992) :
    double.nearest false (v * 2 ^ j) (-(j : Int)) = (fPlace v + 1074).toNat * 4503599627370496 + fMag v := by
  obtain ⟨b1, b2⟩ := log2_bds v hv
  have hp := Nat.two_pow_pos j
  have h0 : v * 2 ^ j ≠ 0 := Nat.mul_ne_zero hv (by omega)
  have hl := log2_mul_pow v j hv
  rcases log2_53 v hv' with hk | hk
  · have eP : fPlace v = (v.log2 : Int) - 52 := by unfold fPlace; rw [if_neg hv, if_pos hk]
    have eM : fMag v = v * 2 ^ (52 - v.log2) := by unfold fMag; rw [if_neg hv, if_pos hk]
    have hM : v * 2 ^ (52 - v.log2) < 9007199254740992 := by
      have : v * 2 ^ (52 - v.log2) < 2 ^ (v.log2 + 1) * 2 ^ (52 - v.log2) := Nat.mul_lt_mul_of_pos_right b2 (Nat.two_pow_pos _)
      rw [← Nat.pow_add, show v.log2 + 1 + (52 - v.log2) = 53 by omega] at this
      omega
    rw [double_nearest _ _ ((v.log2 : Int) - 52) h0 (by rw [hl]; omega), eP, eM]
    have key : Toward.even.cut false ((v * 2 ^ j) <<< (-(j : Int) - ((v.log2 : Int) - 52)).toNat) ((v.log2 : Int) - 52 - -(j : Int)).toNat = v * 2 ^ (52 - v.log2) := by
      rw [Nat.shiftLeft_eq]
      by_cases hj : j ≤ 52 - v.log2
      · rw [show (-(j : Int) - ((v.log2 : Int) - 52)).toNat = 52 - v.log2 - j by omega, show ((v.log2 : Int) - 52 - -(j : Int)).toNat = 0 by omega]
        have := cut_exact false (v * 2 ^ (52 - v.log2)) 0 (by omega)
        rw [Nat.mul_assoc, ← Nat.pow_add, show j + (52 - v.log2 - j) = 52 - v.log2 by omega]
        simpa using this
      · rw [show (-(j : Int) - ((v.log2 : Int) - 52)).toNat = 0 by omega]
        have e : v * 2 ^ j * 2 ^ 0 = v * 2 ^ (52 - v.log2) * 2 ^ ((v.log2 : Int) - 52 - -(j : Int)).toNat := by
          rw [Nat.mul_assoc, Nat.mul_assoc, ← Nat.pow_add, ← Nat.pow_add]
          congr 2
          omega
        have e2 : (v * 2 ^ j * 2 ^ 0).log2 = v.log2 + j := by simpa using hl
        rw [e] at e2 ⊢
        exact cut_exact false _ _ (by rw [e2]; omega)
    rw [key]
    exact min_rung _ _ (toNat_le (by omega)) (Nat.le_of_lt hM)
  · have hk53 : v.log2 = 53 := by
      rw [hk]
      decide +kernel
    have eP : fPlace v = 1 := by unfold fPlace; rw [if_neg hv, hk53, if_neg (by omega)]
    have eM : fMag v = 4503599627370496 := by unfold fMag; rw [if_neg hv, hk53, if_neg (by omega)]
    rw [hk53] at hl
    rw [double_nearest _ _ 1 h0 (by rw [hl]; omega), eP, eM]
    have hv2 : v = 4503599627370496 * 2 := by rw [hk]
    have key : Toward.even.cut false ((v * 2 ^ j) <<< (-(j : Int) - 1).toNat) (1 - -(j : Int)).toNat = 4503599627370496 := by
      rw [Nat.shiftLeft_eq, show (-(j : Int) - 1).toNat = 0 by omega, show (1 - -(j : Int)).toNat = j + 1 by omega]
      have e : v * 2 ^ j * 2 ^ 0 = 4503599627370496 * 2 ^ (j + 1) := by
        rw [hv2, Nat.pow_succ, Nat.pow_zero, Nat.mul_one, Nat.mul_assoc, Nat.mul_comm 2]
      have e2 : (v * 2 ^ j * 2 ^ 0).log2 = 53 + j := by simpa using hl
      rw [e] at e2 ⊢
      exact cut_exact false _ _ (by rw [e2]; omega)
    rw [key]
    exact min_rung _ _ (toNat_le (by decide)) (by decide)

end Go.Proofs.Ytbilbiehgagfkaa
