/-
  What the document's own MulDiv (long division, bit by bit) answers, for all numbers of 64 bits.
-/
import Derived.Test.YtbilbiehgagfkaaWalkB
namespace Go.Proofs.Ytbilbiehgagfkaa
open Go.RowKit

/-- The product, divided: 0 where it does not fit or nothing divides; and the error's number. -/
def mdV (a b c : Int) : Int := if c = 0 then 0 else if a * b / c < 18446744073709551616 then a * b / c else 0
def mdE (a b c : Int) : Int := if c = 0 then 3 else if a * b / c < 18446744073709551616 then 0 else 2

theorem hi_lt (P c : Int) (hc : 0 < c) : P / 18446744073709551616 < c ↔ P / c < 18446744073709551616 := by
  rw [Int.ediv_lt_iff_lt_mul (by decide), Int.ediv_lt_iff_lt_mul hc, Int.mul_comm]

theorem low_bit (P : Int) (i : Nat) (hi : i < 64) : P % 18446744073709551616 / 2 ^ i % 2 = P / 2 ^ i % 2 := by
  have hp : (0 : Int) < 2 ^ i := Int.pow_pos (by decide)
  have e : (18446744073709551616 : Int) = 2 ^ i * (2 * 2 ^ (63 - i)) := by
    rw [← Int.mul_assoc, Int.mul_right_comm, ← Int.pow_add, show i + (63 - i) = 63 by omega]; rfl
  have h : P = P % 18446744073709551616 + 2 ^ i * (2 * (2 ^ (63 - i) * (P / 18446744073709551616))) := by
    have := Int.emod_add_mul_ediv P 18446744073709551616
    rw [← Int.mul_assoc 2, ← Int.mul_assoc (2 ^ i), ← e]
    omega
  have h2 : P / 2 ^ i = P % 18446744073709551616 / 2 ^ i + 2 * (2 ^ (63 - i) * (P / 18446744073709551616)) := by
    conv => lhs; rw [h]
    exact Int.add_mul_ediv_left _ _ (by omega)
  rw [h2]
  omega

theorem md_step0 (T c t : Int) (hc : 0 < c) (ht : 0 ≤ t) (h : 2 * (T % c) + t < c) : (2 * T + t) / c = 2 * (T / c) ∧ (2 * T + t) % c = 2 * (T % c) + t := by
  have h0 := Int.emod_nonneg T (by omega : c ≠ 0)
  have h1 := Int.emod_add_mul_ediv T c
  refine (Int.ediv_emod_unique hc).2 ⟨?_, by omega, h⟩
  rw [Int.mul_left_comm]
  omega
theorem md_step1 (T c t : Int) (hc : 0 < c) (ht : t ≤ 1) (h : c ≤ 2 * (T % c) + t) : (2 * T + t) / c = 2 * (T / c) + 1 ∧ (2 * T + t) % c = 2 * (T % c) + t - c := by
  have h0 := Int.emod_lt_of_pos T hc
  have h1 := Int.emod_add_mul_ediv T c
  refine (Int.ediv_emod_unique hc).2 ⟨?_, by omega, by omega⟩
  rw [Int.mul_add, Int.mul_left_comm]
  omega

theorem quo_bd (P c : Int) (j : Nat) (hc : 0 < c) (hP : 0 ≤ P) (h : P / c < 18446744073709551616) : 0 ≤ P / 2 ^ j / c ∧ P / 2 ^ j / c < 18446744073709551616 := by
  have hp : (0 : Int) < 2 ^ j := Int.pow_pos (by decide)
  have h0 : 0 ≤ P / 2 ^ j := Int.ediv_nonneg hP (Int.le_of_lt hp)
  have h1 : P / 2 ^ j ≤ P := Int.ediv_le_self _ hP
  refine ⟨Int.ediv_nonneg h0 (Int.le_of_lt hc), ?_⟩
  have := Int.ediv_le_ediv hc h1
  omega

/-- One round of the long division, in the program's own words: r, q: rest and quotient so far, X: the rest with the next bit. -/
theorem md_round (P c : Int) (j : Nat) (hj : 1 ≤ j) (hj' : j ≤ 64) (hP : 0 ≤ P) (hc : 0 < c) (hc' : c < 18446744073709551616) (hq : P / c < 18446744073709551616)
    (X : Int) (hX : X = bits .or .u64 (IntKind.u64.wrap (P / 2 ^ j % c * 2)) (bits .and .u64 (P % 18446744073709551616 / 2 ^ (j - 1)) 1)) :
    ((P / 2 ^ j % c / 9223372036854775808 = 1 ∨ c ≤ X) → IntKind.u64.wrap (X - c) = P / 2 ^ (j - 1) % c ∧ IntKind.u64.wrap (IntKind.u64.wrap (P / 2 ^ j / c * 2) + 1) = P / 2 ^ (j - 1) / c) ∧
    (¬ P / 2 ^ j % c / 9223372036854775808 = 1 → X < c → X = P / 2 ^ (j - 1) % c ∧ IntKind.u64.wrap (P / 2 ^ j / c * 2) = P / 2 ^ (j - 1) / c) := by
  have hl : 0 ≤ P % 18446744073709551616 ∧ P % 18446744073709551616 < 18446744073709551616 := by omega
  have hd := div_pow_bd _ (j - 1) hl.1 hl.2
  have hb := low_bit P (j - 1) (by omega)
  have hp : P / 2 ^ j = P / 2 ^ (j - 1) / 2 := by
    have := half_pow P (j - 1)
    rwa [show j - 1 + 1 = j by omega] at this
  have hr0 := Int.emod_nonneg (P / 2 ^ j) (by omega : c ≠ 0)
  have hr1 := Int.emod_lt_of_pos (P / 2 ^ j) hc
  have q0 := quo_bd P c j hc hP hq
  have q1 := quo_bd P c (j - 1) hc hP hq
  rw [and_one _ hd.1 hd.2, hb, or_bit _ _ hr0 (by omega) (by omega)] at hX
  obtain ⟨t, ht⟩ : ∃ t, P / 2 ^ (j - 1) % 2 = t := ⟨_, rfl⟩
  have hT : P / 2 ^ (j - 1) = 2 * (P / 2 ^ j) + t := by omega
  rw [ht] at hX
  have t01 : 0 ≤ t ∧ t ≤ 1 := by omega
  clear hp hb hd ht hl
  rw [hT] at q1 ⊢
  rw [IntKind.wrap_u64, IntKind.wrap_u64, IntKind.wrap_u64]
  constructor
  · intro h
    have hge : c ≤ 2 * (P / 2 ^ j % c) + t := by omega
    obtain ⟨e1, e2⟩ := md_step1 (P / 2 ^ j) c t hc t01.2 hge
    rw [e1] at q1
    rw [e1, e2]
    constructor <;> omega
  · intro h1 h2
    have hlt : 2 * (P / 2 ^ j % c) + t < c := by omega
    obtain ⟨e1, e2⟩ := md_step0 (P / 2 ^ j) c t hc t01.1 hlt
    rw [e1] at q1
    rw [e1, e2]
    constructor <;> omega

set_option maxHeartbeats 1000000 in
theorem rMulDiv_any (a b c : Int) (w : World) (ha : 0 ≤ a) (ha' : a < 18446744073709551616) (hb : 0 ≤ b) (hb' : b < 18446744073709551616) (hc : 0 ≤ c) (hc' : c < 18446744073709551616) :
    Calls Try.prog 19 #[.int .u64 a, .int .u64 b, .int .u64 c] w fun e w' => e = .returned (.tuple #[.int .u64 (mdV a b c), .int .i64 (mdE a b c)]) ∧ w' = w := by
  have hp : 0 ≤ a * b := Int.mul_nonneg ha hb
  have hM := wide_any a b w ha ha' hb hb'
  by_cases hz : c = 0
  · subst hz
    go_enter Try.func19, Try.ntmps19
    go_wp2
    go_ret2
    exact ⟨ret2 (by simp [mdV]) (by simp [mdE]), rfl⟩
  · have hz' : (c == 0) = false := by simpa using hz
    have hcp : 0 < c := by omega
    by_cases hh : hiV a b < c
    · have hq : a * b / c < 18446744073709551616 := (hi_lt _ _ hcp).1 hh
      have v1 : mdV a b c = a * b / c := by unfold mdV; rw [if_neg hz, if_pos hq]
      have v2 : mdE a b c = 0 := by unfold mdE; rw [if_neg hz, if_pos hq]
      rw [v1, v2]
      clear v1 v2
      have hhb := hiV_bd a b ha ha' hb hb'
      have hlb := loV_bd a b
      go_enter Try.func19, Try.ntmps19
      go_wp2_with (go_at_call 30; refine hM.mono ?_; rintro e w' ⟨rfl, rfl⟩)
      go_loop [10, 11, 12] (fun r q i => ∃ j : Nat, j ≤ 64 ∧ i = .int .i64 ((j : Int) - 1) ∧ r = .int .u64 (a * b / 2 ^ j % c) ∧ q = .int .u64 (a * b / 2 ^ j / c)) (fun _ _ i => (intOf i + 1).toNat)
      case atStart =>
        have e : a * b / 2 ^ 64 = hiV a b := rfl
        refine ⟨64, by omega, by go_num, ?_, ?_⟩
        · rw [e, Int.emod_eq_of_lt hhb.1 hh]
        · rw [e, Int.ediv_eq_zero_of_lt hhb.1 hh]
      case round =>
        obtain ⟨j, hj, rfl, rfl, rfl⟩ := hrel
        by_cases hlt : 1 ≤ j
        · have st := hid (md_round (a * b) c j hlt hj hp hcp hc' hq _ rfl)
          go_wp2
          · refine ⟨⟨j - 1, by omega, by go_num, int_val (st.out.1 (Or.inl (by assumption))).1, int_val (st.out.1 (Or.inl (by assumption))).2⟩, by simp [intOf]; omega⟩
          · have h1 : ¬ a * b / 2 ^ j % c / 9223372036854775808 = 1 := by assumption
            have h2 : (a * b / 2 ^ j % c / 9223372036854775808 == 1) = true ∨ c ≤ bits BinOp.or IntKind.u64 (IntKind.u64.wrap (a * b / 2 ^ j % c * 2)) (bits BinOp.and IntKind.u64 (loV a b / 2 ^ (j - 1)) 1) := by assumption
            have h3 := h2.resolve_left (by simpa using h1)
            refine ⟨⟨j - 1, by omega, by go_num, int_val (st.out.1 (Or.inr h3)).1, int_val (st.out.1 (Or.inr h3)).2⟩, by simp [intOf]; omega⟩
          · have h1 : ¬ a * b / 2 ^ j % c / 9223372036854775808 = 1 := by assumption
            have h2 : (a * b / 2 ^ j % c / 9223372036854775808 == 1) = false ∧ bits BinOp.or IntKind.u64 (IntKind.u64.wrap (a * b / 2 ^ j % c * 2)) (bits BinOp.and IntKind.u64 (loV a b / 2 ^ (j - 1)) 1) < c := by assumption
            refine ⟨⟨j - 1, by omega, by go_num, int_val (st.out.2 h1 h2.2).1, int_val (st.out.2 h1 h2.2).2⟩, by simp [intOf]; omega⟩
        · obtain rfl : j = 0 := by omega
          go_wp2
          go_ret2
          exact ⟨ret2 (by simp) (by simp), rfl⟩
    · have hq : ¬ a * b / c < 18446744073709551616 := fun h => hh ((hi_lt _ _ hcp).2 h)
      have v1 : mdV a b c = 0 := by unfold mdV; rw [if_neg hz, if_neg hq]
      have v2 : mdE a b c = 2 := by unfold mdE; rw [if_neg hz, if_neg hq]
      rw [v1, v2]
      clear v1 v2
      go_enter Try.func19, Try.ntmps19
      go_wp2_with (go_at_call 30; refine hM.mono ?_; rintro e w' ⟨rfl, rfl⟩)
      go_ret2
      exact ⟨rfl, rfl⟩

end Go.Proofs.Ytbilbiehgagfkaa
