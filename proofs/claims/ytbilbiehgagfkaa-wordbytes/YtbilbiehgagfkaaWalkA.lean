/-
  What the small functions of package word, and the document's like of them, answer: Add, Sub, Less; bits.Add64 and bits.Mul64; Mul. For all numbers of 64 bits.
-/
import Derived.Test.YtbilbiehgagfkaaRows
import Derived.WalkKit
import Derived.WalkSpells
import Derived.WalkLawsBesides
import Derived.Laws.Externs
import Derived.OpenShut
import Derived.Test.YtbilbiehgagfkaaShelf
import Derived.Test.YtbilbiehgagfkaaNum
namespace Go.Proofs.Ytbilbiehgagfkaa
open Go.RowKit

/-- The sum, the difference, the product, what is above; 0 where it does not fit; and the error's number. -/
def addV (a b : Int) : Int := if a + b < 18446744073709551616 then a + b else 0
def addE (a b : Int) : Int := if a + b < 18446744073709551616 then 0 else 2
def subV (a b : Int) : Int := if a < b then 0 else a - b
def subE (a b : Int) : Int := if a < b then 2 else 0
def mulV (a b : Int) : Int := if a * b < 18446744073709551616 then a * b else 0
def mulE (a b : Int) : Int := if a * b < 18446744073709551616 then 0 else 2

theorem u64_bd {x : Int} (h : (Lit.int .u64 x).wf = true) : 0 ≤ x ∧ x < 18446744073709551616 := by
  have := bounds_u64 h
  omega

theorem add64_0 (x y : Int) (hx : 0 ≤ x) (hy : 0 ≤ y) (w : World) : (callFunc 28 #[.int .u64 x, .int .u64 y, .int .u64 0]).run Try.prog w =
    .ok (.value (.tuple #[.int .u64 ((x + y) % 18446744073709551616), .int .u64 ((x + y) / 18446744073709551616)])) w := by
  rw [run_callFunc_extern Try.func28 (by kernel_rfl) (by kernel_rfl) (by kernel_rfl) (e := add64Entry) (by kernel_rfl), run_add64 x y 0 hx hy (by omega) (by omega)]
  simp only [Result.andThen, Int.add_zero]

set_option maxHeartbeats 400000 in
theorem add_any (a b : Int) (w : World) (ha : 0 ≤ a) (ha' : a < 18446744073709551616) (hb : 0 ≤ b) (hb' : b < 18446744073709551616) :
    Calls Try.prog 10 #[.int .u64 a, .int .u64 b] w fun e w' => e = .returned (.tuple #[.int .u64 (addV a b), .int .i64 (addE a b)]) ∧ w' = w := by
  have hA := add64_0 a b ha hb
  by_cases h : a + b < 18446744073709551616
  · have e1 : (a + b) % 18446744073709551616 = a + b := by omega
    have e2 : (a + b) / 18446744073709551616 = 0 := by omega
    rw [e1, e2] at hA
    have v1 : addV a b = a + b := by simp [addV, h]
    have v2 : addE a b = 0 := by simp [addE, h]
    rw [v1, v2]
    clear v1 v2 e1 e2
    go_enter Try.func10, Try.ntmps10
    go_wp2_with (simp only [hA])
    go_ret2
    exact ⟨rfl, rfl⟩
  · have e2 : (a + b) / 18446744073709551616 = 1 := by omega
    rw [e2] at hA
    have v1 : addV a b = 0 := by simp [addV, h]
    have v2 : addE a b = 2 := by simp [addE, h]
    rw [v1, v2]
    clear v1 v2 e2
    go_enter Try.func10, Try.ntmps10
    go_wp2_with (simp only [hA])
    go_ret2
    exact ⟨rfl, rfl⟩

theorem hid {p : Prop} (h : p) : Hid p := h
theorem int_val {k : IntKind} {a b : Int} (h : a = b) : Value.int k a = .int k b := by rw [h]
theorem ret2 {k l : IntKind} {a b c d : Int} (h1 : a = c) (h2 : b = d) : Ending.returned (.tuple #[.int k a, .int l b]) = .returned (.tuple #[.int k c, .int l d]) := by rw [h1, h2]
theorem ret1 {k : IntKind} {a b : Int} (h : a = b) : Ending.returned (.int k a) = .returned (.int k b) := by rw [h]

set_option maxHeartbeats 400000 in
theorem rAdd_any (a b : Int) (w : World) (ha : 0 ≤ a) (ha' : a < 18446744073709551616) (hb : 0 ≤ b) (hb' : b < 18446744073709551616) :
    Calls Try.prog 11 #[.int .u64 a, .int .u64 b] w fun e w' => e = .returned (.tuple #[.int .u64 (addV a b), .int .i64 (addE a b)]) ∧ w' = w := by
  go_enter Try.func11, Try.ntmps11
  go_wp2
  · have h : IntKind.u64.wrap (a + b) < a := by assumption
    rw [IntKind.wrap_u64] at h
    go_ret2
    exact ⟨ret2 (by unfold addV; rw [if_neg (by omega)]) (by unfold addE; rw [if_neg (by omega)]), rfl⟩
  · have h : a ≤ IntKind.u64.wrap (a + b) := by assumption
    go_ret2
    rw [IntKind.wrap_u64] at h ⊢
    exact ⟨ret2 (by unfold addV; rw [if_pos (by omega)]; omega) (by unfold addE; rw [if_pos (by omega)]), rfl⟩

set_option maxHeartbeats 400000 in
theorem sub_any (a b : Int) (w : World) (ha : 0 ≤ a) (ha' : a < 18446744073709551616) (hb : 0 ≤ b) (hb' : b < 18446744073709551616) :
    Calls Try.prog 12 #[.int .u64 a, .int .u64 b] w fun e w' => e = .returned (.tuple #[.int .u64 (subV a b), .int .i64 (subE a b)]) ∧ w' = w := by
  go_enter Try.func12, Try.ntmps12
  go_wp2
  · have h : a < b := by assumption
    go_ret2
    exact ⟨ret2 (by unfold subV; rw [if_pos h]) (by unfold subE; rw [if_pos h]), rfl⟩
  · have h : ¬ a < b := by omega
    go_ret2
    exact ⟨ret2 (by unfold subV; rw [if_neg h]) (by unfold subE; rw [if_neg h]), rfl⟩

set_option maxHeartbeats 400000 in
theorem rSub_any (a b : Int) (w : World) (ha : 0 ≤ a) (ha' : a < 18446744073709551616) (hb : 0 ≤ b) (hb' : b < 18446744073709551616) :
    Calls Try.prog 13 #[.int .u64 a, .int .u64 b] w fun e w' => e = .returned (.tuple #[.int .u64 (subV a b), .int .i64 (subE a b)]) ∧ w' = w := by
  go_enter Try.func13, Try.ntmps13
  go_wp2
  · have h : a < b := by assumption
    go_ret2
    exact ⟨ret2 (by unfold subV; rw [if_pos h]) (by unfold subE; rw [if_pos h]), rfl⟩
  · have h : ¬ a < b := by omega
    go_ret2
    exact ⟨ret2 (by unfold subV; rw [if_neg h]) (by unfold subE; rw [if_neg h]), rfl⟩

set_option maxHeartbeats 400000 in
theorem less_any (a b : Int) (w : World) (ha : 0 ≤ a) (ha' : a < 18446744073709551616) (hb : 0 ≤ b) (hb' : b < 18446744073709551616) :
    Calls Try.prog 16 #[.int .u64 a, .int .u64 b] w fun e w' => e = .returned (.int .u64 (subV a b)) ∧ w' = w := by
  go_enter Try.func16, Try.ntmps16
  go_wp2
  · have h : a < b := by assumption
    go_ret
    exact ⟨ret1 (by unfold subV; rw [if_pos h]), rfl⟩
  · have h : ¬ a < b := by omega
    go_ret
    exact ⟨ret1 (by unfold subV; rw [if_neg h]), rfl⟩

set_option maxHeartbeats 400000 in
theorem rLess_any (a b : Int) (w : World) (ha : 0 ≤ a) (ha' : a < 18446744073709551616) (hb : 0 ≤ b) (hb' : b < 18446744073709551616) :
    Calls Try.prog 17 #[.int .u64 a, .int .u64 b] w fun e w' => e = .returned (.int .u64 (subV a b)) ∧ w' = w := by
  go_enter Try.func17, Try.ntmps17
  go_wp2
  · have h : a < b := by assumption
    go_ret
    exact ⟨ret1 (by unfold subV; rw [if_pos h]), rfl⟩
  · have h : ¬ a < b := by omega
    go_ret
    exact ⟨ret1 (by unfold subV; rw [if_neg h]), rfl⟩

theorem mul64_any (a b : Int) (w : World) (ha : 0 ≤ a) (ha' : a < 18446744073709551616) (hb : 0 ≤ b) (hb' : b < 18446744073709551616) :
    Calls Try.prog 29 #[.int .u64 a, .int .u64 b] w fun e w' => e = .returned (.tuple #[.int .u64 (hiV a b), .int .u64 (loV a b)]) ∧ w' = w := by
  obtain ⟨x, rfl⟩ := Int.eq_ofNat_of_zero_le ha
  obtain ⟨y, rfl⟩ := Int.eq_ofNat_of_zero_le hb
  refine (Try.bits_Mul64 x y (by omega) (by omega) w).mono ?_
  rintro e w' ⟨rfl, rfl⟩
  exact ⟨ret2 (by unfold hiV; rw [← Int.natCast_mul]; omega) (by unfold loV; rw [← Int.natCast_mul]; omega), rfl⟩

set_option maxHeartbeats 400000 in
theorem mul_any (a b : Int) (w : World) (ha : 0 ≤ a) (ha' : a < 18446744073709551616) (hb : 0 ≤ b) (hb' : b < 18446744073709551616) :
    Calls Try.prog 14 #[.int .u64 a, .int .u64 b] w fun e w' => e = .returned (.tuple #[.int .u64 (mulV a b), .int .i64 (mulE a b)]) ∧ w' = w := by
  have hp : 0 ≤ a * b := Int.mul_nonneg ha hb
  have hM := mul64_any a b w ha ha' hb hb'
  by_cases h : hiV a b = 0
  · have h' : (hiV a b == 0) = true := by simpa using h
    have l : a * b < 18446744073709551616 := by unfold hiV at h; omega
    have v1 : mulV a b = loV a b := by unfold mulV loV; rw [if_pos l]; omega
    have v2 : mulE a b = 0 := by unfold mulE; rw [if_pos l]
    rw [v1, v2]
    clear v1 v2 l hp
    rw [h] at hM
    go_enter Try.func14, Try.ntmps14
    go_wp2_with (go_at_call 29; refine hM.mono ?_; rintro e w' ⟨rfl, rfl⟩)
    go_ret2
    exact ⟨rfl, rfl⟩
  · have h' : (hiV a b == 0) = false := by simpa using h
    have l : ¬ a * b < 18446744073709551616 := by unfold hiV at h; omega
    have v1 : mulV a b = 0 := by unfold mulV; rw [if_neg l]
    have v2 : mulE a b = 2 := by unfold mulE; rw [if_neg l]
    rw [v1, v2]
    clear v1 v2 l hp
    go_enter Try.func14, Try.ntmps14
    go_wp2_with (go_at_call 29; refine hM.mono ?_; rintro e w' ⟨rfl, rfl⟩)
    go_ret2
    exact ⟨rfl, rfl⟩

end Go.Proofs.Ytbilbiehgagfkaa
