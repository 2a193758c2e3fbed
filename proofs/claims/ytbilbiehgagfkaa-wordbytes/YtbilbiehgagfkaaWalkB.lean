/-
  What the document's own product by bits (wide) and its Mul answer, for all numbers of 64 bits.
-/
import Derived.Test.YtbilbiehgagfkaaWalkA
namespace Go.Proofs.Ytbilbiehgagfkaa
open Go.RowKit

set_option maxHeartbeats 400000 in
theorem wide_any (a b : Int) (w : World) (ha : 0 ≤ a) (ha' : a < 18446744073709551616) (hb : 0 ≤ b) (hb' : b < 18446744073709551616) :
    Calls Try.prog 30 #[.int .u64 a, .int .u64 b] w fun e w' => e = .returned (.tuple #[.int .u64 (hiV a b), .int .u64 (loV a b)]) ∧ w' = w := by
  go_enter Try.func30, Try.ntmps30
  go_wp2
  go_loop [6, 7, 8] (fun h l i => ∃ j : Nat, j ≤ 64 ∧ i = .int .i64 ((j : Int) - 1) ∧ h = .int .u64 (hiV a (b / 2 ^ j)) ∧ l = .int .u64 (loV a (b / 2 ^ j))) (fun _ _ i => (intOf i + 1).toNat)
  case atStart =>
    refine ⟨64, by omega, by go_num, ?_, ?_⟩
    · rw [div_pow_64 b hb hb']; simp [hiV]
    · rw [div_pow_64 b hb hb']; simp [loV]
  case round =>
    obtain ⟨j, hj, rfl, rfl, rfl⟩ := hrel
    by_cases hlt : 1 ≤ j
    · have hd := div_pow_bd b j hb hb'
      have hd1 := div_pow_bd b (j - 1) hb hb'
      have an := hid (and_one (b / 2 ^ (j - 1)) hd1.1 hd1.2)
      have hp : Hid (b / 2 ^ j = b / 2 ^ (j - 1) / 2) := by
        have := half_pow b (j - 1)
        rwa [show j - 1 + 1 = j by omega] at this
      go_wp2
      · have h1 : (bits BinOp.and IntKind.u64 (b / 2 ^ (j - 1)) 1 == 1) = true := by assumption
        have h2 : IntKind.u64.wrap (IntKind.u64.wrap (loV a (b / 2 ^ j) * 2) + a) < IntKind.u64.wrap (loV a (b / 2 ^ j) * 2) := by assumption
        rw [an.out] at h1
        have h1' : b / 2 ^ (j - 1) % 2 = 1 := by simpa using h1
        have hq : b / 2 ^ (j - 1) = 2 * (b / 2 ^ j) + 1 := by have := hp.out; omega
        have st := wide_step1 a (b / 2 ^ j) ha ha' hd.1 (by omega)
        refine ⟨⟨j - 1, by omega, by go_num, ?_, ?_⟩, by simp [intOf]; omega⟩
        · rw [hq]; exact int_val (st.2.1 h2)
        · rw [hq]; exact int_val st.1
      · have h1 : (bits BinOp.and IntKind.u64 (b / 2 ^ (j - 1)) 1 == 1) = true := by assumption
        have h2 : IntKind.u64.wrap (loV a (b / 2 ^ j) * 2) ≤ IntKind.u64.wrap (IntKind.u64.wrap (loV a (b / 2 ^ j) * 2) + a) := by assumption
        rw [an.out] at h1
        have h1' : b / 2 ^ (j - 1) % 2 = 1 := by simpa using h1
        have hq : b / 2 ^ (j - 1) = 2 * (b / 2 ^ j) + 1 := by have := hp.out; omega
        have st := wide_step1 a (b / 2 ^ j) ha ha' hd.1 (by omega)
        refine ⟨⟨j - 1, by omega, by go_num, ?_, ?_⟩, by simp [intOf]; omega⟩
        · rw [hq]; exact int_val (st.2.2 h2)
        · rw [hq]; exact int_val st.1
      · have h1 : (bits BinOp.and IntKind.u64 (b / 2 ^ (j - 1)) 1 == 1) = false := by assumption
        rw [an.out] at h1
        have h1' : ¬ b / 2 ^ (j - 1) % 2 = 1 := by simpa using h1
        have hq : b / 2 ^ (j - 1) = 2 * (b / 2 ^ j) := by have := hp.out; omega
        have st := wide_step0 a (b / 2 ^ j) ha ha' hd.1 (by omega)
        refine ⟨⟨j - 1, by omega, by go_num, ?_, ?_⟩, by simp [intOf]; omega⟩
        · rw [hq]; exact int_val st.1
        · rw [hq]; exact int_val st.2
    · obtain rfl : j = 0 := by omega
      go_wp2
      go_ret2
      exact ⟨ret2 (by simp) (by simp), rfl⟩


set_option maxHeartbeats 400000 in
theorem rMul_any (a b : Int) (w : World) (ha : 0 ≤ a) (ha' : a < 18446744073709551616) (hb : 0 ≤ b) (hb' : b < 18446744073709551616) :
    Calls Try.prog 15 #[.int .u64 a, .int .u64 b] w fun e w' => e = .returned (.tuple #[.int .u64 (mulV a b), .int .i64 (mulE a b)]) ∧ w' = w := by
  have hp : 0 ≤ a * b := Int.mul_nonneg ha hb
  have hM := wide_any a b w ha ha' hb hb'
  by_cases h : hiV a b = 0
  · have h' : (hiV a b == 0) = true := by simpa using h
    have l : a * b < 18446744073709551616 := by unfold hiV at h; omega
    have v1 : mulV a b = loV a b := by unfold mulV loV; rw [if_pos l]; omega
    have v2 : mulE a b = 0 := by unfold mulE; rw [if_pos l]
    rw [v1, v2]
    clear v1 v2 l hp
    rw [h] at hM
    go_enter Try.func15, Try.ntmps15
    go_wp2_with (go_at_call 30; refine hM.mono ?_; rintro e w' ⟨rfl, rfl⟩)
    go_ret2
    exact ⟨rfl, rfl⟩
  · have h' : (hiV a b == 0) = false := by simpa using h
    have l : ¬ a * b < 18446744073709551616 := by unfold hiV at h; omega
    have v1 : mulV a b = 0 := by unfold mulV; rw [if_neg l]
    have v2 : mulE a b = 2 := by unfold mulE; rw [if_neg l]
    rw [v1, v2]
    clear v1 v2 l hp
    go_enter Try.func15, Try.ntmps15
    go_wp2_with (go_at_call 30; refine hM.mono ?_; rintro e w' ⟨rfl, rfl⟩)
    go_ret2
    exact ⟨rfl, rfl⟩

end Go.Proofs.Ytbilbiehgagfkaa
