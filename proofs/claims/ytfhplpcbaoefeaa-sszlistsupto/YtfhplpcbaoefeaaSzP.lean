/-
  What ssz.Each answers.
-/
import Derived.Test.YtfhplpcbaoefeaaSzO
namespace Go.Proofs.Ytfhplpcbaoefeaa
open Go.RowKit
set_option linter.unusedVariables false
set_option linter.unusedSimpArgs false

/-- The frame with which Each's one end is reached. -/
def RefE (v0 v1 v2 : Value) (err : Int) (a' : Act) : Prop := ∃ u9 u10 u11 u12 u13 u14 u15 u16 u17 u18 u19 u20 u21 u22 u23 u24 u25 u26 u27 u28 u29, a' = { tmps := #[v0, v1, v2, undef, undef, undef, .slice none 0 0, .int .i64 0, .int .i64 err, u9, u10, u11, u12, u13, u14, u15, u16, u17, u18, u19, u20, u21, u22, u23, u24, u25, u26, u27, u28, u29], defers := [] }

set_option maxRecDepth 20000 in
set_option maxHeartbeats 1000000 in
theorem each_arg1 (ao : Option Addr) (len cap : Nat) (size most : Int) (w : World) (h : size < 1) :
    Calls Try.prog 5 #[.slice ao len cap, .int .i64 size, .int .i64 most] w fun e w' => e = .returned (.tuple #[.slice none 0 0, .int .i64 1]) ∧ w' = w := by
  go_enter Try.func5, Try.ntmps5
  go_wp2
  refine wp_scope_jumps 0 (fun a' w' => RefE (.slice ao len cap) (.int .i64 size) (.int .i64 most) 1 a' ∧ w' = w) (fun _ _ => 0) rfl ?_ ?_
  · go_wp2
    go_step3
    exact ⟨rfl, ⟨_, _, _, _, _, _, _, _, _, _, _, _, _, _, _, _, _, _, _, _, _, rfl⟩, rfl⟩
  · rintro a' w' ⟨⟨u9, u10, u11, u12, u13, u14, u15, u16, u17, u18, u19, u20, u21, u22, u23, u24, u25, u26, u27, u28, u29, rfl⟩, rfl⟩
    go_wp2
    simp only [Exit.jump]
    go_ret2
    exact ⟨rfl, rfl⟩

set_option maxRecDepth 20000 in
set_option maxHeartbeats 1000000 in
theorem each_arg2 (ao : Option Addr) (len cap : Nat) (size most : Int) (w : World) (h0 : ¬ size < 1) (h : most < 0) :
    Calls Try.prog 5 #[.slice ao len cap, .int .i64 size, .int .i64 most] w fun e w' => e = .returned (.tuple #[.slice none 0 0, .int .i64 1]) ∧ w' = w := by
  go_enter Try.func5, Try.ntmps5
  go_wp2
  refine wp_scope_jumps 0 (fun a' w' => RefE (.slice ao len cap) (.int .i64 size) (.int .i64 most) 1 a' ∧ w' = w) (fun _ _ => 0) rfl ?_ ?_
  · go_wp2
    go_step3
    exact ⟨rfl, ⟨_, _, _, _, _, _, _, _, _, _, _, _, _, _, _, _, _, _, _, _, _, rfl⟩, rfl⟩
  · rintro a' w' ⟨⟨u9, u10, u11, u12, u13, u14, u15, u16, u17, u18, u19, u20, u21, u22, u23, u24, u25, u26, u27, u28, u29, rfl⟩, rfl⟩
    go_wp2
    simp only [Exit.jump]
    go_ret2
    exact ⟨rfl, rfl⟩

set_option maxRecDepth 20000 in
set_option maxHeartbeats 1000000 in
theorem each_size (ao : Option Addr) (len cap : Nat) (size most : Int) (w : World) (hlen : len ≤ 140737488351232) (h0 : ¬ size < 1) (h1 : ¬ most < 0) (h : ¬ (len : Int) % size = 0) (hs : size ≤ 9223372036854775807) :
    Calls Try.prog 5 #[.slice ao len cap, .int .i64 size, .int .i64 most] w fun e w' => e = .returned (.tuple #[.slice none 0 0, .int .i64 4]) ∧ w' = w := by
  have q1 : ¬ (len : Int).tmod size = 0 := by rw [Int.tmod_eq_emod_of_nonneg (by omega)]; exact h
  have q2 : ¬ size = 0 := by omega
  have q3 : ¬ size = -1 := by omega
  have q4 : (len : Int) ≤ 140737488351232 := by omega
  go_enter Try.func5, Try.ntmps5
  go_wp2
  refine wp_scope_jumps 0 (fun a' w' => RefE (.slice ao len cap) (.int .i64 size) (.int .i64 most) 4 a' ∧ w' = w) (fun _ _ => 0) rfl ?_ ?_
  · go_wp2
    go_step3
    exact ⟨rfl, ⟨_, _, _, _, _, _, _, _, _, _, _, _, _, _, _, _, _, _, _, _, _, rfl⟩, rfl⟩
  · rintro a' w' ⟨⟨u9, u10, u11, u12, u13, u14, u15, u16, u17, u18, u19, u20, u21, u22, u23, u24, u25, u26, u27, u28, u29, rfl⟩, rfl⟩
    go_wp2
    simp only [Exit.jump]
    go_ret2
    exact ⟨rfl, rfl⟩

set_option maxRecDepth 20000 in
set_option maxHeartbeats 1000000 in
theorem each_long (ao : Option Addr) (len cap : Nat) (size most : Int) (w : World) (hlen : len ≤ 140737488351232) (h0 : ¬ size < 1) (h1 : ¬ most < 0) (n : Nat) (hn : (len : Int) = n * size) (hs : size ≤ 9223372036854775807) (hl : most < (n : Int)) (hnb : (n : Int) ≤ 140737488351232) :
    Calls Try.prog 5 #[.slice ao len cap, .int .i64 size, .int .i64 most] w fun e w' => e = .returned (.tuple #[.slice none 0 0, .int .i64 6]) ∧ w' = w := by
  have q0 : (len : Int) % size = 0 := by rw [hn]; exact Int.mul_emod_left _ _
  have q1 : (len : Int).tmod size = 0 := by rw [Int.tmod_eq_emod_of_nonneg (by omega)]; exact q0
  have q2 : ¬ size = 0 := by omega
  have q3 : ¬ size = -1 := by omega
  have q4 : (len : Int) ≤ 140737488351232 := by omega
  have q5 : (len : Int) / size = (n : Int) := by rw [hn]; exact Int.mul_ediv_cancel _ q2
  have q6 : (len : Int).tdiv size = (n : Int) := by rw [Int.tdiv_eq_ediv_of_nonneg (by omega)]; exact q5
  clear hn
  go_enter Try.func5, Try.ntmps5
  go_wp2
  refine wp_scope_jumps 0 (fun a' w' => RefE (.slice ao len cap) (.int .i64 size) (.int .i64 most) 6 a' ∧ w' = w) (fun _ _ => 0) rfl ?_ ?_
  · go_wp2
    go_step3
    exact ⟨rfl, ⟨_, _, _, _, _, _, _, _, _, _, _, _, _, _, _, _, _, _, _, _, _, rfl⟩, rfl⟩
  · rintro a' w' ⟨⟨u9, u10, u11, u12, u13, u14, u15, u16, u17, u18, u19, u20, u21, u22, u23, u24, u25, u26, u27, u28, u29, rfl⟩, rfl⟩
    go_wp2
    simp only [Exit.jump]
    go_ret2
    exact ⟨rfl, rfl⟩

set_option maxRecDepth 20000 in
set_option maxHeartbeats 1000000 in
theorem each_ok (m : Nat → Int) (ao : Option Addr) (len cap s n : Nat) (most : Int) (w : World) (hb : Bys w ao len cap m) (hlen : len ≤ 140737488351232) (hs1 : 1 ≤ s) (hsb : s ≤ 9223372036854775807) (hn : len = n * s) (hnb : n ≤ 1000000000000) (hm : (n : Int) ≤ most) (hm1 : most ≤ 9223372036854775807) :
    Calls Try.prog 5 #[.slice ao len cap, .int .i64 s, .int .i64 most] w fun e w' => ∃ ga gp, e = .returned (.tuple #[.slice (some ⟨gp, 0, none⟩) n n, .int .i64 0]) ∧ w.heap.size ≤ gp ∧ (0 < len → ∃ g, ga = some ⟨g, 0, none⟩ ∧ w.heap.size ≤ g ∧ g < w'.heap.size ∧ g ≠ gp ∧ ∀ j, j < len → w'.cell? ⟨g, j, none⟩ = some (.int .u8 (m j))) ∧ w'.heap[gp]? = some (.cells (vals n fun i => pc ga (i * s) ((i + 1) * s)) 22) ∧ Below w.heap.size w w' := by
  have heq := equal_any m ao len cap s n w hb hlen hs1 hsb hn hnb
  have HEQ := hid heq
  have hn' : (len : Int) = (n : Int) * (s : Int) := by rw [hn, Int.natCast_mul]
  have q2 : ¬ (s : Int) = 0 := by omega
  have q0 : (len : Int) % (s : Int) = 0 := by rw [hn']; exact Int.mul_emod_left _ _
  have q1 : (len : Int).tmod (s : Int) = 0 := by rw [Int.tmod_eq_emod_of_nonneg (by omega)]; exact q0
  have q3 : ¬ (s : Int) = -1 := by omega
  have q4 : (len : Int) ≤ 140737488351232 := by omega
  have q5 : (len : Int) / (s : Int) = (n : Int) := by rw [hn']; exact Int.mul_ediv_cancel _ q2
  have q6 : (len : Int).tdiv (s : Int) = (n : Int) := by rw [Int.tdiv_eq_ediv_of_nonneg (by omega)]; exact q5
  have q7 : ¬ (s : Int) < 1 := by omega
  have q8 : ¬ most < 0 := by omega
  have q9 : ¬ most < (n : Int) := by omega
  have q10 : ¬ s = 0 := by omega
  have q11 : 1 ≤ s := by omega
  clear hn hn' heq hb
  go_enter Try.func5, Try.ntmps5
  go_wp2
  refine wp_scope_jumps 0 (fun _ _ => False) (fun _ _ => 0) rfl ?_ (fun _ _ h => h.elim)
  go_wp2_with (go_at_call 13; refine HEQ.out.mono ?_; rintro e w1 ⟨ga, gp, rfl, x⟩)
  simp only [Exit.jump]
  go_ret2
  exact ⟨ga, gp, rfl, x⟩

end Go.Proofs.Ytfhplpcbaoefeaa
