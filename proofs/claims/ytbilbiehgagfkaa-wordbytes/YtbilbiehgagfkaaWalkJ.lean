/-
  What word.Join answers; and that the fixed answers which every statement of layer 1 asks first are right.
-/
import Derived.Test.YtbilbiehgagfkaaWalkF
import Derived.Test.YtbilbiehgagfkaaFlt
namespace Go.Proofs.Ytbilbiehgagfkaa
open Go.RowKit

set_option maxHeartbeats 400000 in
theorem join_yes (a b : Int) (w : World) (ha : a ≤ 9007199254740992) (hb : b ≤ 9007199254740992) :
    Calls Try.prog 25 #[.int .u64 a, .int .u64 b] w fun e w' => e = .returned (.tuple #[.complex .f64 (floatOfInt .f64 a) (floatOfInt .f64 b), .int .i64 0]) ∧ w' = w := by
  have ha1 : ¬ 9007199254740992 < a := by omega
  have hb1 : ¬ 9007199254740992 < b := by omega
  go_enter Try.func25, Try.ntmps25
  go_wp2
  go_ret2
  exact ⟨rfl, rfl⟩

set_option maxHeartbeats 400000 in
theorem join_no (a b : Int) (w : World) (h : 9007199254740992 < a ∨ 9007199254740992 < b) :
    Calls Try.prog 25 #[.int .u64 a, .int .u64 b] w fun e w' => e = .returned (.tuple #[.complex .f64 0 0, .int .i64 2]) ∧ w' = w := by
  by_cases h1 : 9007199254740992 < a
  · go_enter Try.func25, Try.ntmps25
    go_wp2
    go_ret2
    exact ⟨rfl, rfl⟩
  · have h2 : 9007199254740992 < b := by omega
    go_enter Try.func25, Try.ntmps25
    go_wp2
    go_ret2
    exact ⟨rfl, rfl⟩

/-- What Join answers. -/
def jnR (a b : Int) : Nat := if a ≤ 9007199254740992 ∧ b ≤ 9007199254740992 then floatOfInt .f64 a else 0
def jnI (a b : Int) : Nat := if a ≤ 9007199254740992 ∧ b ≤ 9007199254740992 then floatOfInt .f64 b else 0
def jnE (a b : Int) : Int := if a ≤ 9007199254740992 ∧ b ≤ 9007199254740992 then 0 else 2

theorem jn_yes {a b : Int} (ha : a ≤ 9007199254740992) (hb : b ≤ 9007199254740992) : jnR a b = floatOfInt .f64 a ∧ jnI a b = floatOfInt .f64 b ∧ jnE a b = 0 := by
  unfold jnR jnI jnE; rw [if_pos ⟨ha, hb⟩, if_pos ⟨ha, hb⟩, if_pos ⟨ha, hb⟩]; exact ⟨rfl, rfl, rfl⟩
theorem jn_no {a b : Int} (h : ¬ (a ≤ 9007199254740992 ∧ b ≤ 9007199254740992)) : jnR a b = 0 ∧ jnI a b = 0 ∧ jnE a b = 2 := by
  unfold jnR jnI jnE; rw [if_neg h, if_neg h, if_neg h]; exact ⟨rfl, rfl, rfl⟩

theorem join_any (a b : Int) (w : World) :
    Calls Try.prog 25 #[.int .u64 a, .int .u64 b] w fun e w' => e = .returned (.tuple #[.complex .f64 (jnR a b) (jnI a b), .int .i64 (jnE a b)]) ∧ w' = w := by
  by_cases h : a ≤ 9007199254740992 ∧ b ≤ 9007199254740992
  · obtain ⟨e1, e2, e3⟩ := jn_yes h.1 h.2
    rw [e1, e2, e3]
    exact join_yes a b w h.1 h.2
  · obtain ⟨e1, e2, e3⟩ := jn_no h
    rw [e1, e2, e3]
    exact join_no a b w (by omega)

theorem grown_drewN (w : World) (n : Nat) : Grown w (w.drewN n) := Grown.refl w

theorem root_exists (n : Nat) : ∃ r, IsRoot n r := by
  induction n with
  | zero => exact ⟨0, by decide, by decide, by decide⟩
  | succ n ih =>
    obtain ⟨r, h0, h1, h2⟩ := ih
    by_cases h : (r + 1) * (r + 1) ≤ ((n + 1 : Nat) : Int)
    · refine ⟨r + 1, by omega, h, ?_⟩
      have e : (r + 1 + 1) * (r + 1 + 1) = (r + 1) * (r + 1) + 2 * (r + 1) + 1 := by rw [Int.add_mul (r + 1), Int.mul_add (r + 1)]; omega
      omega
    · exact ⟨r, h0, by omega, by omega⟩
theorem root_val (n r : Int) (w : World) (h0 : 0 ≤ n) (h1 : n < 18446744073709551616) (hr : IsRoot n r) :
    Calls Try.prog 20 #[.int .u64 n] w fun e w' => e = .returned (.int .u64 r) ∧ w' = w := by
  refine (root_any n w h0 h1).mono ?_
  rintro e w' ⟨⟨s, rfl, hs⟩, rfl⟩
  rw [root_unique hs hr]
  exact ⟨rfl, rfl⟩
theorem root_bd (n r : Int) (h1 : n < 18446744073709551616) (hr : IsRoot n r) : r ≤ 4294967295 := by
  by_cases h : r ≤ 4294967295
  · exact h
  · have : (4294967296 : Int) * 4294967296 ≤ r * r := Int.mul_le_mul (by omega) (by omega) (by decide) hr.1
    have := hr.2.1
    omega
theorem root_sq (r : Int) (h : 0 ≤ r) : IsRoot (r * r) r := by
  refine ⟨h, Int.le_refl _, ?_⟩
  have e : (r + 1) * (r + 1) = r * r + 2 * r + 1 := by rw [Int.add_mul, Int.mul_add]; omega
  omega
theorem root_sq_less (r : Int) (h : 0 < r) : IsRoot (r * r - 1) (r - 1) := by
  have e : (r - 1) * (r - 1) = r * r - 2 * r + 1 := by rw [Int.sub_mul, Int.mul_sub]; omega
  refine ⟨by omega, by omega, ?_⟩
  have e2 : r - 1 + 1 = r := by omega
  rw [e2]
  omega

theorem root16 (r : Int) (h : IsRoot 16 r) : r = 4 := root_unique h ⟨by decide, by decide, by decide⟩
theorem three : FloatKind.f64.format.order (floatOfInt .f64 3) 4613937818241073152 = some .eq := by kernel_rfl
theorem four : FloatKind.f64.format.order (floatOfInt .f64 4) 4616189618054758400 = some .eq := by kernel_rfl
theorem md1 : mdV 9223372036854775808 3 4 = 6917529027641081856 := by decide
theorem ad1 : addV 2 3 = 5 := by decide
theorem ad2 : addE 2 3 = 0 := by decide
theorem sb2 : subE 3 5 = 2 := by decide
theorem md2 : mdE 9223372036854775808 3 4 = 0 := by decide

set_option maxHeartbeats 1000000 in
theorem awake_any (w : World) :
    Calls Try.prog 9 #[] w fun e w' => e = .returned (.bool true) ∧ ∃ n, w' = w.drewN n := by
  have t3 := three
  have t4 := four
  go_enter Try.func9, Try.ntmps9
  go_wp2_with (first
    | (go_at_call 10; refine (add_any 2 3 _ (by decide) (by decide) (by decide) (by decide)).mono ?_; rintro e w' ⟨rfl, rfl⟩; rw [ad1, ad2])
    | (go_at_call 18; refine (mulDiv_any 9223372036854775808 3 4 _ (by decide) (by decide) (by decide) (by decide) (by decide) (by decide)).mono ?_; rintro e w' ⟨rfl, n, rfl⟩; rw [md1, md2])
    | (go_at_call 12; refine (sub_any 3 5 _ (by decide) (by decide) (by decide) (by decide)).mono ?_; rintro e w' ⟨rfl, rfl⟩; rw [sb2])
    | (go_at_call 25; refine (join_yes 3 4 _ (by decide) (by decide)).mono ?_; rintro e w' ⟨rfl, rfl⟩)
    | (go_at_call 20; refine (root_any 16 _ (by decide) (by decide)).mono ?_; rintro e w' ⟨⟨r, rfl, hr⟩, rfl⟩; rw [root16 r hr]))
  go_ret
  exact ⟨rfl, _, rfl⟩

end Go.Proofs.Ytbilbiehgagfkaa
