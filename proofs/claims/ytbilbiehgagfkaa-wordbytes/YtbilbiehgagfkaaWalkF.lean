/-
  What word.MulDiv answers, for all numbers of 64 bits.
-/
import Derived.Test.YtbilbiehgagfkaaWalkE
namespace Go.Proofs.Ytbilbiehgagfkaa
open Go.RowKit

theorem div64_any (hi lo y : Int) (w : World) (hh : 0 ≤ hi) (hl : 0 ≤ lo) (hl' : lo < 18446744073709551616) (hy : hi < y) (hy' : y < 18446744073709551616) :
    Calls Try.prog 31 #[.int .u64 hi, .int .u64 lo, .int .u64 y] w fun e w' => (∃ r, e = .returned (.tuple #[.int .u64 ((hi * 18446744073709551616 + lo) / y), .int .u64 r])) ∧ ∃ n, w' = w.drewN n := by
  by_cases h : hi = 0
  · subst h
    have e : (0 : Int) * 18446744073709551616 + lo = lo := by omega
    rw [e]
    exact div64_small lo y w hl hl' hy hy'
  · exact div64_great hi lo y w (by omega) hl hl' hy hy'

set_option maxHeartbeats 1000000 in
theorem mulDiv_any (a b c : Int) (w : World) (ha : 0 ≤ a) (ha' : a < 18446744073709551616) (hb : 0 ≤ b) (hb' : b < 18446744073709551616) (hc : 0 ≤ c) (hc' : c < 18446744073709551616) :
    Calls Try.prog 18 #[.int .u64 a, .int .u64 b, .int .u64 c] w fun e w' => e = .returned (.tuple #[.int .u64 (mdV a b c), .int .i64 (mdE a b c)]) ∧ ∃ n, w' = w.drewN n := by
  have hM := mul64_any a b w ha ha' hb hb'
  by_cases hz : c = 0
  · subst hz
    go_enter Try.func18, Try.ntmps18
    go_wp2
    go_ret2
    exact ⟨ret2 (by simp [mdV]) (by simp [mdE]), 0, rfl⟩
  · have hz' : (c == 0) = false := by simpa using hz
    have hcp : 0 < c := by omega
    by_cases hh : hiV a b < c
    · have hq : a * b / c < 18446744073709551616 := (hi_lt _ _ hcp).1 hh
      have v1 : mdV a b c = a * b / c := by unfold mdV; rw [if_neg hz, if_pos hq]
      have v2 : mdE a b c = 0 := by unfold mdE; rw [if_neg hz, if_pos hq]
      rw [v1, v2]
      clear v1 v2
      have hhb := hiV_bd a b ha ha' hb hb'
      have hlb := loV_bd a b
      have hD := div64_any (hiV a b) (loV a b) c w hhb.1 hlb.1 hlb.2 hh hc'
      have e : hiV a b * 18446744073709551616 + loV a b = a * b := by unfold hiV loV; omega
      rw [e] at hD
      clear e
      go_enter Try.func18, Try.ntmps18
      go_wp2_with (first | (go_at_call 29; refine hM.mono ?_; rintro e w' ⟨rfl, rfl⟩) | (go_at_call 31; refine hD.mono ?_; rintro e w' ⟨⟨r, rfl⟩, n, rfl⟩))
      go_ret2
      exact ⟨rfl, _, rfl⟩
    · have hq : ¬ a * b / c < 18446744073709551616 := fun h => hh ((hi_lt _ _ hcp).2 h)
      have v1 : mdV a b c = 0 := by unfold mdV; rw [if_neg hz, if_neg hq]
      have v2 : mdE a b c = 2 := by unfold mdE; rw [if_neg hz, if_neg hq]
      rw [v1, v2]
      clear v1 v2
      go_enter Try.func18, Try.ntmps18
      go_wp2_with (go_at_call 29; refine hM.mono ?_; rintro e w' ⟨rfl, rfl⟩)
      go_ret2
      exact ⟨rfl, 0, rfl⟩

end Go.Proofs.Ytbilbiehgagfkaa
