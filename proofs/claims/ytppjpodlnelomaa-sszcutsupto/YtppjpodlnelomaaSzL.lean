/-
  What SszBools answers.
-/
import Derived.Test.YtppjpodlnelomaaSzK
import Derived.ScopeJumps
namespace Go.Proofs.Ytppjpodlnelomaa
open Go.RowKit
set_option linter.unusedVariables false
set_option linter.unusedSimpArgs false

/-- The frame with which the one end is reached. -/
def Ref (w : World) (err : Int) (v5 v6 v7 v8 v9 v10 v11 v0 : Value) (a' : Act) (w' : World) : Prop :=
  w' = w ∧ a' = { tmps := #[v0, undef, .bool false, .int .i64 0, .int .i64 err, v5, v6, v7, v8, v9, v10, v11, undef, undef, undef, undef, undef], defers := [] }

theorem bool_other (a : Option Addr) (len cap : Nat) (w : World) (h : ¬ len = 1) (hl : len ≤ 9223372036854775807) :
    Calls Try.prog 22 #[.slice a len cap] w fun e w' => e = .returned (.tuple #[.bool false, .int .i64 4]) ∧ w' = w := by
  have h1 : ¬ (len : Int) = 1 := by omega
  go_enter Try.func22, Try.ntmps22
  go_wp2
  refine wp_scope_jumps 0 (Ref w 4 (.slice a len cap) (.int .i64 len) (.bool ((len : Int) != 1)) undef undef undef undef (.slice a len cap)) (fun _ _ => 0) rfl ?_ ?_
  · go_wp2
    go_step3
    exact ⟨rfl, rfl, rfl⟩
  · rintro a' w' ⟨rfl, rfl⟩
    go_wp2
    simp only [Exit.jump]
    go_ret2
    exact ⟨rfl, rfl⟩
theorem bool_big (b off cap : Nat) (z : Int) (w : World) (hc : w.cell? ⟨b, off, none⟩ = some (.int .u8 z)) (h : 1 < z) :
    Calls Try.prog 22 #[.slice (some ⟨b, off, none⟩) 1 cap] w fun e w' => e = .returned (.tuple #[.bool false, .int .i64 5]) ∧ w' = w := by
  go_enter Try.func22, Try.ntmps22
  go_wp2
  refine wp_scope_jumps 0 (Ref w 5 (.slice (some ⟨b, off, none⟩) 1 cap) (.int .i64 1) (.bool false) (.slice (some ⟨b, off, none⟩) 1 cap) (.pointer (some ⟨b, off, none⟩)) (.int .u8 z) (.bool true) (.slice (some ⟨b, off, none⟩) 1 cap)) (fun _ _ => 0) rfl ?_ ?_
  · go_wp2
    go_step3
    exact ⟨rfl, rfl, rfl⟩
  · rintro a' w' ⟨rfl, rfl⟩
    go_wp2
    simp only [Exit.jump]
    go_ret2
    exact ⟨rfl, rfl⟩
theorem bool_one (b off cap : Nat) (z : Int) (w : World) (hc : w.cell? ⟨b, off, none⟩ = some (.int .u8 z)) (h : ¬ 1 < z) (h0 : 0 ≤ z) :
    Calls Try.prog 22 #[.slice (some ⟨b, off, none⟩) 1 cap] w fun e w' => e = .returned (.tuple #[.bool (z == 1), .int .i64 0]) ∧ w' = w := by
  go_enter Try.func22, Try.ntmps22
  go_wp2
  refine wp_scope_jumps 0 (fun _ _ => False) (fun _ _ => 0) rfl ?_ (fun _ _ h => h.elim)
  go_wp2
  simp only [Exit.jump]
  go_ret2
  exact ⟨rfl, rfl⟩
theorem rbool_other (a : Option Addr) (len cap : Nat) (w : World) (h : ¬ len = 1) (hl : len ≤ 9223372036854775807) :
    Calls Try.prog 23 #[.slice a len cap] w fun e w' => e = .returned (.tuple #[.bool false, .int .i64 4]) ∧ w' = w := by
  have h1 : ¬ (len : Int) = 1 := by omega
  go_enter Try.func23, Try.ntmps23
  go_wp2
  go_ret2
  exact ⟨rfl, rfl⟩
theorem rbool_big (b off cap : Nat) (z : Int) (w : World) (hc : w.cell? ⟨b, off, none⟩ = some (.int .u8 z)) (h : 1 < z) :
    Calls Try.prog 23 #[.slice (some ⟨b, off, none⟩) 1 cap] w fun e w' => e = .returned (.tuple #[.bool false, .int .i64 5]) ∧ w' = w := by
  go_enter Try.func23, Try.ntmps23
  go_wp2
  go_ret2
  exact ⟨rfl, rfl⟩
theorem rbool_one (b off cap : Nat) (z : Int) (w : World) (hc : w.cell? ⟨b, off, none⟩ = some (.int .u8 z)) (h : ¬ 1 < z) (h0 : 0 ≤ z) :
    Calls Try.prog 23 #[.slice (some ⟨b, off, none⟩) 1 cap] w fun e w' => e = .returned (.tuple #[.bool (z == 1), .int .i64 0]) ∧ w' = w := by
  go_enter Try.func23, Try.ntmps23
  go_wp2
  go_ret2
  exact ⟨rfl, rfl⟩

/-- Both answer the same, so the law is true. -/
theorem bools_of (a : Option Addr) (len cap : Nat) (x : Bool) (e : Int) (w : World)
    (h1 : ∀ w', Below w.heap.size w w' → Calls Try.prog 22 #[.slice a len cap] w' fun r w'' => r = .returned (.tuple #[.bool x, .int .i64 e]) ∧ w'' = w')
    (h2 : ∀ w', Below w.heap.size w w' → Calls Try.prog 23 #[.slice a len cap] w' fun r w'' => r = .returned (.tuple #[.bool x, .int .i64 e]) ∧ w'' = w') :
    Calls Try.prog 8 #[.slice a len cap] w fun r w' => r = .returned (.bool true) ∧ Below w.heap.size w w' := by
  have H1 := hid h1
  have H2 := hid h2
  clear h1 h2
  go_enter Try.func8, Try.ntmps8
  go_wp2_with (first
    | (go_at_call 9; refine (awake_any _).mono ?_; rintro r w1 ⟨rfl, hb1⟩)
    | (go_at_call 22; refine (H1.out _ hb1).mono ?_; rintro r w2 ⟨rfl, rfl⟩)
    | (go_at_call 23; refine (H2.out _ hb1).mono ?_; rintro r w3 ⟨rfl, rfl⟩))
  go_ret
  exact ⟨rfl, hb1⟩
theorem bools_other (a : Option Addr) (len cap : Nat) (w : World) (h : ¬ len = 1) (hl : len ≤ 9223372036854775807) :
    Calls Try.prog 8 #[.slice a len cap] w fun r w' => r = .returned (.bool true) ∧ Below w.heap.size w w' :=
  bools_of a len cap false 4 w (fun w' _ => bool_other a len cap w' h hl) (fun w' _ => rbool_other a len cap w' h hl)
theorem bools_one (b off cap : Nat) (z : Int) (w : World) (hc : w.cell? ⟨b, off, none⟩ = some (.int .u8 z)) (bd : 0 ≤ z ∧ z ≤ 255) (hb : b < w.heap.size) :
    Calls Try.prog 8 #[.slice (some ⟨b, off, none⟩) 1 cap] w fun r w' => r = .returned (.bool true) ∧ Below w.heap.size w w' := by
  by_cases h : 1 < z
  · exact bools_of _ 1 cap false 5 w (fun w' hw => bool_big b off cap z w' ((below_cell hw hb).trans hc) h) (fun w' hw => rbool_big b off cap z w' ((below_cell hw hb).trans hc) h)
  · exact bools_of _ 1 cap (z == 1) 0 w (fun w' hw => bool_one b off cap z w' ((below_cell hw hb).trans hc) h bd.1) (fun w' hw => rbool_one b off cap z w' ((below_cell hw hb).trans hc) h bd.1)

end Go.Proofs.Ytppjpodlnelomaa
