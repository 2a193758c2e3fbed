/-
  Plain facts on float64: what a word stands for, its order against 0 and 2^53, what is cut off it, and sums of whole numbers.
-/
import Derived.Test.YtbilbiehgagfkaaFlt
namespace Go.Proofs.Ytbilbiehgagfkaa
open Go.RowKit Ieee

theorem read_word (r : Nat) (p : Int) (m : Nat) (hp : -1074 ≤ p) (hp' : p ≤ 1) (hm : 4503599627370496 ≤ m) (hm' : m < 9007199254740992) (hr : r = (p + 1074).toNat * 4503599627370496 + m) :
    double.read r = .number false m p := by
  have h1 : r / 9223372036854775808 = 0 := by omega
  have h2 : r % 9223372036854775808 = r := by omega
  unfold Format.read
  simp only [double_sign, double_binade, double_inf, double_least, h1, h2]
  rw [if_neg (by omega), if_pos (by omega)]
  have h3 : 4503599627370496 + r % 4503599627370496 = m := by omega
  have h4 : (-1074 : Int) + ((r / 4503599627370496 - 1 : Nat) : Int) = p := by omega
  rw [h3, h4]
  rfl

theorem read_zero : double.read 0 = .number false 0 (-1074) := by
  unfold Format.read
  simp only [double_sign, double_binade, double_least]
  rfl

theorem fMag_bds (v : Nat) (hv : v ≠ 0) (_hv' : v ≤ 9007199254740992) : 4503599627370496 ≤ fMag v ∧ fMag v < 9007199254740992 := by
  obtain ⟨b1, b2⟩ := log2_bds v hv
  unfold fMag
  rw [if_neg hv]
  split
  · rename_i hk
    have e1 : 2 ^ v.log2 * 2 ^ (52 - v.log2) = 2 ^ 52 := by rw [← Nat.pow_add, show v.log2 + (52 - v.log2) = 52 by omega]
    have e2 : 2 ^ (v.log2 + 1) * 2 ^ (52 - v.log2) = 2 ^ 53 := by rw [← Nat.pow_add, show v.log2 + 1 + (52 - v.log2) = 53 by omega]
    have h1 : 2 ^ v.log2 * 2 ^ (52 - v.log2) ≤ v * 2 ^ (52 - v.log2) := Nat.mul_le_mul_right _ b1
    have h2 : v * 2 ^ (52 - v.log2) < 2 ^ (v.log2 + 1) * 2 ^ (52 - v.log2) := Nat.mul_lt_mul_of_pos_right b2 (Nat.two_pow_pos _)
    rw [e1] at h1
    rw [e2] at h2
    exact ⟨h1, h2⟩
  · exact ⟨Nat.le_refl _, by decide⟩

theorem fPlace_bds (v : Nat) : -1074 ≤ fPlace v ∧ fPlace v ≤ 1 := by
  unfold fPlace
  split
  · omega
  · split <;> omega

/-- The word of a whole number. -/
def fWord (v : Nat) : Nat := if v = 0 then 0 else (fPlace v + 1074).toNat * 4503599627370496 + fMag v

theorem read_fWord (v : Nat) (hv' : v ≤ 9007199254740992) : double.read (fWord v) = .number false (fMag v) (fPlace v) := by
  by_cases hv : v = 0
  · subst hv; exact read_zero
  · obtain ⟨m1, m2⟩ := fMag_bds v hv hv'
    obtain ⟨p1, p2⟩ := fPlace_bds v
    exact read_word _ _ _ p1 p2 m1 m2 (by unfold fWord; rw [if_neg hv])

theorem nearest_zero (p : Int) : double.nearest false 0 p = 0 := by
  unfold Format.nearest
  rw [if_pos rfl]
  rfl

theorem nearest_fWord (v j : Nat) (hv' : v ≤ 9007199254740992) : double.nearest false (v * 2 ^ j) (-(j : Int)) = fWord v := by
  by_cases hv : v = 0
  · subst hv; rw [Nat.zero_mul]; exact nearest_zero _
  · rw [nearest_val v j hv hv']
    unfold fWord
    rw [if_neg hv]

theorem floatOfInt_fWord (v : Nat) (hv' : v ≤ 9007199254740992) : floatOfInt .f64 (v : Int) = fWord v := by
  have h := nearest_fWord v 0 hv'
  rw [Nat.pow_zero, Nat.mul_one] at h
  rw [← h]
  have e : (decide ((v : Int) < 0)) = false := by simp
  show double.nearest (decide ((v : Int) < 0)) (v : Int).natAbs 0 = _
  rw [e]
  rfl

/-- The digits, moved down to a place that is not above 0. -/
theorem fMag_shift (v j : Nat) (hv' : v ≤ 9007199254740992) (hj : -(j : Int) ≤ fPlace v) : fMag v <<< (fPlace v - -(j : Int)).toNat = v * 2 ^ j := by
  rw [Nat.shiftLeft_eq]
  by_cases hv : v = 0
  · subst hv; unfold fMag; rw [if_pos rfl, Nat.zero_mul, Nat.zero_mul]
  · rcases log2_53 v hv' with hk | hk
    · have eP : fPlace v = (v.log2 : Int) - 52 := by unfold fPlace; rw [if_neg hv, if_pos hk]
      have eM : fMag v = v * 2 ^ (52 - v.log2) := by unfold fMag; rw [if_neg hv, if_pos hk]
      rw [eP] at hj ⊢
      rw [eM, Nat.mul_assoc, ← Nat.pow_add]
      congr 2
      omega
    · have hk53 : v.log2 = 53 := by
        rw [hk]
        decide +kernel
      have eP : fPlace v = 1 := by unfold fPlace; rw [if_neg hv, hk53, if_neg (by omega)]
      have eM : fMag v = 4503599627370496 := by unfold fMag; rw [if_neg hv, hk53, if_neg (by omega)]
      have hv2 : v = 4503599627370496 * 2 := by rw [hk]
      rw [eP, eM, show (1 - -(j : Int)).toNat = j + 1 by omega, Nat.pow_succ, hv2, Nat.mul_assoc, Nat.mul_comm 2]


theorem cmp_ge (a b : Int) : (some (compare a b) == some Ordering.gt || some (compare a b) == some Ordering.eq) = decide (b ≤ a) := by
  show (some (compareOfLessAndEq a b) == some Ordering.gt || some (compareOfLessAndEq a b) == some Ordering.eq) = decide (b ≤ a)
  unfold compareOfLessAndEq
  by_cases h1 : a < b
  · rw [if_pos h1, decide_eq_false (by omega)]; rfl
  · rw [if_neg h1, decide_eq_true (by omega)]
    by_cases h2 : a = b
    · rw [if_pos h2]; rfl
    · rw [if_neg h2]; rfl
theorem cmp_le (a b : Int) : (some (compare a b) == some Ordering.lt || some (compare a b) == some Ordering.eq) = decide (a ≤ b) := by
  show (some (compareOfLessAndEq a b) == some Ordering.lt || some (compareOfLessAndEq a b) == some Ordering.eq) = decide (a ≤ b)
  unfold compareOfLessAndEq
  by_cases h1 : a < b
  · rw [if_pos h1, decide_eq_true (by omega)]; rfl
  · rw [if_neg h1]
    by_cases h2 : a = b
    · rw [if_pos h2, decide_eq_true (by omega)]; rfl
    · rw [if_neg h2, decide_eq_false (by omega)]; rfl
theorem cmp_eq (a b : Int) : (some (compare a b) == some Ordering.eq) = decide (a = b) := by
  show (some (compareOfLessAndEq a b) == some Ordering.eq) = decide (a = b)
  unfold compareOfLessAndEq
  by_cases h1 : a < b
  · rw [if_pos h1, decide_eq_false (by omega)]; rfl
  · rw [if_neg h1]
    by_cases h2 : a = b
    · rw [if_pos h2, decide_eq_true h2]; rfl
    · rw [if_neg h2, decide_eq_false h2]; rfl

/-- What the program asks of a part: is it from 0 to 2^53? -/
def wGe (b : Nat) : Bool := FloatKind.f64.format.order b 0 == some .gt || FloatKind.f64.format.order b 0 == some .eq
def wLe (b : Nat) : Bool := FloatKind.f64.format.order b 4845873199050653696 == some .lt || FloatKind.f64.format.order b 4845873199050653696 == some .eq
def wEq (a b : Nat) : Bool := FloatKind.f64.format.order a b == some .eq

theorem read_most : double.read 4845873199050653696 = .number false 4503599627370496 1 := read_word _ _ _ (by decide) (by decide) (by decide) (by decide) (by decide)

/-- Any word. -/
theorem read_any (b : Nat) : (∃ s m p, double.read b = .number s m p ∧ m < 9007199254740992 ∧ -1074 ≤ p) ∨ (∃ s, double.read b = .infinity s) ∨ (∃ s f, double.read b = .nan s f) := by
  unfold Format.read
  simp only [double_sign, double_binade, double_inf, double_least]
  split
  · exact Or.inl ⟨_, _, _, rfl, by omega, by omega⟩
  · split
    · exact Or.inl ⟨_, _, _, rfl, by omega, by omega⟩
    · split
      · exact Or.inr (Or.inl ⟨_, rfl⟩)
      · exact Or.inr (Or.inr ⟨_, _, rfl⟩)

theorem ge_num (b m : Nat) (s : Bool) (p : Int) (h : double.read b = .number s m p) (hp : -1074 ≤ p) : wGe b = decide (0 ≤ signed s m (p + 1074).toNat) := by
  have e : double.order b 0 = some (compare (signed s m (p + 1074).toNat) (signed false 0 0)) := by
    unfold Format.order
    rw [h, read_zero]
    show some _ = some _
    simp only [Int.min_eq_right hp, Int.sub_neg, Int.add_left_neg]
    rfl
  show (double.order b 0 == some .gt || double.order b 0 == some .eq) = _
  rw [e, cmp_ge]
  rfl

theorem le_num (b m : Nat) (s : Bool) (p : Int) (h : double.read b = .number s m p) : wLe b = decide (signed s m (p - min p 1).toNat ≤ signed false 4503599627370496 (1 - min p 1).toNat) := by
  have e : double.order b 4845873199050653696 = some (compare (signed s m (p - min p 1).toNat) (signed false 4503599627370496 (1 - min p 1).toNat)) := by
    unfold Format.order
    rw [h, read_most]
    rfl
  show (double.order b 4845873199050653696 == some .lt || double.order b 4845873199050653696 == some .eq) = _
  rw [e, cmp_le]

theorem signed_true (m j : Nat) : signed true m j = -((m * 2 ^ j : Nat) : Int) := by unfold signed; rw [if_pos rfl, Nat.shiftLeft_eq]
theorem signed_false (m j : Nat) : signed false m j = ((m * 2 ^ j : Nat) : Int) := by unfold signed; rw [if_neg (by decide), Nat.shiftLeft_eq]

/-- What is cut off towards zero. -/
theorem cut_zero (neg : Bool) (n d : Nat) : Toward.zero.cut neg n d = n / 2 ^ min d (n.log2 + 2) := by
  unfold Toward.cut
  simp only [Nat.shiftLeft_eq, Nat.one_mul]
  rfl

theorem toInt_num (b m : Nat) (s : Bool) (p : Int) (h : double.read b = .number s m p) : (FloatKind.f64.decode b).toInt .zero = some (signed s ((m * 2 ^ p.toNat) / 2 ^ min (-p).toNat ((m * 2 ^ p.toNat).log2 + 2)) 0) := by
  show (double.read b).toInt .zero = _
  rw [h]
  show some (signed s (Toward.zero.cut s (m <<< p.toNat) (-p).toNat) 0) = _
  rw [cut_zero, Nat.shiftLeft_eq]

/-- A part from 0 to 2^53 has a whole number that is told. -/
theorem toInt_ok (b : Nat) (h1 : wGe b = true) (h2 : wLe b = true) : ∃ n, floatToIntVal .f64 b .u64 = some n ∧ 0 ≤ n ∧ n ≤ 9007199254740992 := by
  rcases read_any b with ⟨s, m, p, hr, hm, hp⟩ | ⟨s, hr⟩ | ⟨s, f, hr⟩
  · rw [ge_num b m s p hr hp] at h1
    rw [le_num b m s p hr] at h2
    have h1 := of_decide_eq_true h1
    have h2 := of_decide_eq_true h2
    have ht := toInt_num b m s p hr
    have key : ∃ t : Nat, signed s ((m * 2 ^ p.toNat) / 2 ^ min (-p).toNat ((m * 2 ^ p.toNat).log2 + 2)) 0 = (t : Int) ∧ t ≤ 9007199254740992 := by
      cases s with
      | true =>
        rw [signed_true] at h1
        have hz : m * 2 ^ (p + 1074).toNat = 0 := by omega
        have hm0 : m = 0 := (Nat.mul_eq_zero.1 hz).resolve_right (by have := Nat.two_pow_pos (p + 1074).toNat; omega)
        refine ⟨0, ?_, by omega⟩
        rw [hm0, signed_true, Nat.zero_mul, Nat.zero_div, Nat.zero_mul]
        rfl
      | false =>
        refine ⟨(m * 2 ^ p.toNat) / 2 ^ min (-p).toNat ((m * 2 ^ p.toNat).log2 + 2), by rw [signed_false, Nat.pow_zero, Nat.mul_one], ?_⟩
        by_cases hp1 : p ≤ 0
        · have hd := Nat.div_le_self (m * 2 ^ p.toNat) (2 ^ min (-p).toNat ((m * 2 ^ p.toNat).log2 + 2))
          have e0 : p.toNat = 0 := by omega
          have e1 : m * 2 ^ p.toNat = m := by rw [e0, Nat.pow_zero, Nat.mul_one]
          omega
        · rw [signed_false, signed_false, Int.min_eq_right (by omega)] at h2
          have e0 : p.toNat = (p - 1).toNat + 1 := by omega
          have e1 : m * 2 ^ p.toNat = m * 2 ^ (p - 1).toNat * 2 := by rw [e0, Nat.pow_succ, Nat.mul_assoc]
          have e2 : (1 - (1 : Int)).toNat = 0 := rfl
          rw [e2, Nat.pow_zero, Nat.mul_one] at h2
          have hd := Nat.div_le_self (m * 2 ^ p.toNat) (2 ^ min (-p).toNat ((m * 2 ^ p.toNat).log2 + 2))
          omega
    obtain ⟨t, e, hl⟩ := key
    rw [e] at ht
    refine ⟨t, ?_, by omega, by omega⟩
    unfold floatToIntVal
    rw [ht]
    show (if IntKind.u64.min ≤ (t : Int) ∧ (t : Int) ≤ IntKind.u64.max then some (t : Int) else none) = some (t : Int)
    rw [if_pos]
    have a1 : IntKind.u64.min = 0 := by decide
    have a2 : IntKind.u64.max = 18446744073709551615 := by decide
    rw [a1, a2]
    omega
  · exfalso
    have e1 : double.order b 0 = some (if s then .lt else .gt) := by unfold Format.order; rw [hr, read_zero]; rfl
    have e2 : double.order b 4845873199050653696 = some (if s then .lt else .gt) := by unfold Format.order; rw [hr, read_most]; rfl
    have h1' : (double.order b 0 == some .gt || double.order b 0 == some .eq) = true := h1
    have h2' : (double.order b 4845873199050653696 == some .lt || double.order b 4845873199050653696 == some .eq) = true := h2
    rw [e1] at h1'
    rw [e2] at h2'
    cases s with
    | true => exact absurd h1' (by decide)
    | false => exact absurd h2' (by decide)
  · exfalso
    have e1 : double.order b 0 = none := by unfold Format.order; rw [hr]; rfl
    have h1' : (double.order b 0 == some .gt || double.order b 0 == some .eq) = true := h1
    rw [e1] at h1'
    exact absurd h1' (by decide)

/-! A whole number from 0 to 2^53 -/
theorem fWord_ge (v : Nat) (hv : v ≤ 9007199254740992) : wGe (fWord v) = true := by
  rw [ge_num _ _ _ _ (read_fWord v hv) (fPlace_bds v).1, signed_false]
  exact decide_eq_true (by omega)

theorem fWord_le (v : Nat) (hv : v ≤ 9007199254740992) : wLe (fWord v) = true := by
  rw [le_num _ _ _ _ (read_fWord v hv), signed_false, signed_false]
  refine decide_eq_true ?_
  have hb := (fPlace_bds v).2
  rw [Int.min_eq_left hb]
  by_cases h0 : fPlace v ≤ 0
  · obtain ⟨j, hj⟩ : ∃ j : Nat, fPlace v = -(j : Int) := ⟨(-fPlace v).toNat, by omega⟩
    have e := fMag_shift v j hv (by omega)
    rw [hj] at e ⊢
    rw [show (-(j : Int) - -(j : Int)).toNat = 0 by omega, Nat.shiftLeft_eq] at e
    rw [show (-(j : Int) - -(j : Int)).toNat = 0 by omega, e, show (1 - -(j : Int)).toNat = j + 1 by omega, Nat.pow_succ]
    have h1 : v * 2 ^ j ≤ 9007199254740992 * 2 ^ j := Nat.mul_le_mul_right _ hv
    omega
  · have h1 : fPlace v = 1 := by omega
    rw [h1]
    by_cases hv0 : v = 0
    · subst hv0; exact absurd h1 (by decide)
    · have h2 : fMag v = 4503599627370496 := by
        unfold fPlace at h1
        unfold fMag
        rw [if_neg hv0] at h1 ⊢
        split at h1
        · rename_i hk; omega
        · rename_i hk; rw [if_neg hk]
      rw [h2]
      exact Int.le_refl _

theorem fWord_int (v : Nat) (hv : v ≤ 9007199254740992) : floatToIntVal .f64 (fWord v) .u64 = some (v : Int) := by
  have ht := toInt_num _ _ _ _ (read_fWord v hv)
  have key : fMag v * 2 ^ (fPlace v).toNat / 2 ^ min (-fPlace v).toNat ((fMag v * 2 ^ (fPlace v).toNat).log2 + 2) = v := by
    by_cases hv0 : v = 0
    · subst hv0; unfold fMag; rw [if_pos rfl, Nat.zero_mul, Nat.zero_div]
    · rcases log2_53 v hv with hk | hk
      · have eP : fPlace v = (v.log2 : Int) - 52 := by unfold fPlace; rw [if_neg hv0, if_pos hk]
        have eM : fMag v = v * 2 ^ (52 - v.log2) := by unfold fMag; rw [if_neg hv0, if_pos hk]
        rw [eP, eM, show ((v.log2 : Int) - 52).toNat = 0 by omega, Nat.pow_zero, Nat.mul_one, log2_mul_pow v _ hv0, show (-((v.log2 : Int) - 52)).toNat = 52 - v.log2 by omega, Nat.min_eq_left (by omega)]
        exact Nat.mul_div_cancel _ (Nat.two_pow_pos _)
      · have hk53 : v.log2 = 53 := by
          rw [hk]
          decide +kernel
        have eP : fPlace v = 1 := by unfold fPlace; rw [if_neg hv0, hk53, if_neg (by omega)]
        have eM : fMag v = 4503599627370496 := by unfold fMag; rw [if_neg hv0, hk53, if_neg (by omega)]
        rw [eP, eM, show (-(1 : Int)).toNat = 0 from rfl, Nat.zero_min, Nat.pow_zero, Nat.div_one, hk]
        decide
  rw [key, signed_false, Nat.pow_zero, Nat.mul_one] at ht
  unfold floatToIntVal
  rw [ht]
  show (if IntKind.u64.min ≤ (v : Int) ∧ (v : Int) ≤ IntKind.u64.max then some (v : Int) else none) = some (v : Int)
  rw [if_pos]
  have a1 : IntKind.u64.min = 0 := by decide
  have a2 : IntKind.u64.max = 18446744073709551615 := by decide
  rw [a1, a2]
  omega

theorem fWord_eq (v : Nat) (hv : v ≤ 9007199254740992) : wEq (fWord v) (fWord v) = true := by
  have e : double.order (fWord v) (fWord v) = some (compare (signed false (fMag v) (fPlace v - min (fPlace v) (fPlace v)).toNat) (signed false (fMag v) (fPlace v - min (fPlace v) (fPlace v)).toNat)) := by
    unfold Format.order
    rw [read_fWord v hv]
    rfl
  show (double.order (fWord v) (fWord v) == some .eq) = true
  rw [e, cmp_eq]
  exact decide_eq_true rfl

theorem place_one (v : Nat) (hv : v ≤ 9007199254740992) (h1 : fPlace v = 1) : v = 9007199254740992 := by
  rcases log2_53 v hv with hk | hk
  · exfalso
    unfold fPlace at h1
    split at h1
    · omega
    · omega
  · exact hk

theorem fWord_add (v u : Nat) (hv : v + u ≤ 9007199254740992) : double.add (fWord v) (fWord u) = some (fWord (v + u)) := by
  have hb : min (fPlace v) (fPlace u) ≤ 0 := by
    by_cases h1 : fPlace v ≤ 0
    · omega
    · by_cases h2 : fPlace u ≤ 0
      · omega
      · exfalso
        have a := place_one v (by omega) (by have := fPlace_bds v; omega)
        have b := place_one u (by omega) (by have := fPlace_bds u; omega)
        omega
  obtain ⟨j, hj⟩ : ∃ j : Nat, min (fPlace v) (fPlace u) = -(j : Int) := ⟨(-min (fPlace v) (fPlace u)).toNat, by omega⟩
  have e1 := fMag_shift v j (by omega) (by omega)
  have e2 := fMag_shift u j (by omega) (by omega)
  have hs : (Datum.number false (fMag v) (fPlace v)).sum (.number false (fMag u) (fPlace u)) = some (.number false ((v + u) * 2 ^ j) (-(j : Int))) := by
    have eT : signed false (fMag v) (fPlace v - min (fPlace v) (fPlace u)).toNat + signed false (fMag u) (fPlace u - min (fPlace v) (fPlace u)).toNat = (((v + u) * 2 ^ j : Nat) : Int) := by
      rw [hj]
      unfold signed
      rw [if_neg (by decide), if_neg (by decide), e1, e2, Nat.add_mul]
      omega
    show some (Datum.number (if signed false (fMag v) (fPlace v - min (fPlace v) (fPlace u)).toNat + signed false (fMag u) (fPlace u - min (fPlace v) (fPlace u)).toNat = 0 then false && false else decide (signed false (fMag v) (fPlace v - min (fPlace v) (fPlace u)).toNat + signed false (fMag u) (fPlace u - min (fPlace v) (fPlace u)).toNat < 0)) (signed false (fMag v) (fPlace v - min (fPlace v) (fPlace u)).toNat + signed false (fMag u) (fPlace u - min (fPlace v) (fPlace u)).toNat).natAbs (min (fPlace v) (fPlace u))) = _
    rw [eT, hj, Int.natAbs_natCast]
    have hd : decide ((((v + u) * 2 ^ j : Nat) : Int) < 0) = false := decide_eq_false (by omega)
    rw [hd, Bool.false_and, ite_self]
  unfold Format.add
  rw [read_fWord v (by omega), read_fWord u (by omega), hs]
  show some (double.nearest false ((v + u) * 2 ^ j) (-(j : Int))) = _
  rw [nearest_fWord (v + u) j hv]

end Go.Proofs.Ytbilbiehgagfkaa
