/-
  What slices.Clone answers for the lists of a state.
-/

import Derived.Test.YtpnpmgeokicpjaaDoorQF
namespace Go.Proofs.YtpnpmgeokicpjaaDoor

open Go.RowKit

set_option linter.unusedVariables false

set_option linter.unusedSimpArgs false

set_option maxRecDepth 20000

theorem eqnilR2 (w : World) (a : Option Addr) (l c : Nat) : (binOp .eql 32 (.slice a l c) (.slice none 0 0)).run Tryd.prog w = .ok (.bool a.isNone) w := by
  simp only [binOp]
  simp [run_equal_slice_nil w 32 24 a l c Tryd.underlying32]

set_option maxHeartbeats 1000000 in
theorem clR (a : Option Addr) (n c : Nat) (news : List Value) (w : World) (hs : Src w 32 a n c news) (hb : n * 32 ≤ 140737488351232) :
    Calls Tryd.prog 29 #[.slice a n c] w fun e w' => ∃ a' c', e = .returned (.slice a' n c') ∧ w'.ownsRow w.heap.size 24 32 (.slice a' n c') n news ∧ Below w.heap.size w w' := by
  cases a with
  | none =>
    obtain ⟨rfl, rfl⟩ := hs.1 rfl
    obtain rfl : news = [] := List.length_eq_zero_iff.1 (by rw [hs.2.1, Nat.zero_mul])
    have q := eqnilR2 w none 0 0
    go_enter Tryd.func29, Tryd.ntmps29
    go_wp2
    go_ret
    exact ⟨none, 0, rfl, World.ownsRow_nil _ _ _ _, Below.refl _ _⟩
  | some x =>
    obtain ⟨i, hi, hz0, hz1, hz2⟩ := info_out (P := Tryd.prog) (t := 24) (z := .agg (vs .u8 32 fun _ => 0)) (s := 32) (b := 32) (by kernel_rfl)
    have II := hid (And.intro hi (And.intro hz0 (And.intro hz1 hz2)))
    have HS := hid (hs.below ((Below.refl w.heap.size w).alloc (Nat.le_refl _) (.cells #[] 24)))
    have q := eqnilR2 w (some x) n c
    clear hs hi hz0 hz1 hz2
    go_enter Tryd.func29, Tryd.ntmps29
    go_wp2_with (at_builtin; refine app_src _ rfl _ _ 32 rfl w.heap.size 24 i (.agg (vs .u8 32 fun _ => 0)) 32 32 Tryd.underlying32 II.out.1 II.out.2.1 II.out.2.2.1 II.out.2.2.2 (by simp [Value.cells, vs_size]) (by omega) _ 0 [] rfl (World.ownsRow_made _ #[] 0 (Nat.le_refl _) (Nat.zero_le _) rfl) _ _ _ news rfl HS.out (by unfold maxLen; omega) (by omega) (by simp) ?_; intro v6 w6 ho hg; obtain ⟨a6, c6, rfl⟩ := owns_form ho)
    go_ret
    rw [Nat.zero_add, List.nil_append] at ho
    exact ⟨a6, c6, rfl, ho, below_grownS ((Below.refl _ _).alloc (Nat.le_refl _) _) (World.ownsRow_made (e := 24) (size := 32) _ #[] 0 (Nat.le_refl _) (Nat.zero_le _) rfl) (by simp) hg⟩

theorem eqnilE (w : World) (a : Option Addr) (l c : Nat) : (binOp .eql 35 (.slice a l c) (.slice none 0 0)).run Tryd.prog w = .ok (.bool a.isNone) w := by
  simp only [binOp]
  simp [run_equal_slice_nil w 35 34 a l c Tryd.underlying35]

set_option maxHeartbeats 1000000 in
theorem clE (a : Option Addr) (n c : Nat) (news : List Value) (w : World) (hs : Src w 65 a n c news) (hb : n * 72 ≤ 140737488351232) :
    Calls Tryd.prog 30 #[.slice a n c] w fun e w' => ∃ a' c', e = .returned (.slice a' n c') ∧ w'.ownsRow w.heap.size 34 65 (.slice a' n c') n news ∧ Below w.heap.size w w' := by
  cases a with
  | none =>
    obtain ⟨rfl, rfl⟩ := hs.1 rfl
    obtain rfl : news = [] := List.length_eq_zero_iff.1 (by rw [hs.2.1, Nat.zero_mul])
    have q := eqnilE w none 0 0
    go_enter Tryd.func30, Tryd.ntmps30
    go_wp2
    go_ret
    exact ⟨none, 0, rfl, World.ownsRow_nil _ _ _ _, Below.refl _ _⟩
  | some x =>
    obtain ⟨i, hi, hz0, hz1, hz2⟩ := info_out (P := Tryd.prog) (t := 34) (z := .agg (cel (sEth1 oEth1))) (s := 65) (b := 72) (by kernel_rfl)
    have II := hid (And.intro hi (And.intro hz0 (And.intro hz1 hz2)))
    have HS := hid (hs.below ((Below.refl w.heap.size w).alloc (Nat.le_refl _) (.cells #[] 34)))
    have q := eqnilE w (some x) n c
    clear hs hi hz0 hz1 hz2
    go_enter Tryd.func30, Tryd.ntmps30
    go_wp2_with (at_builtin; refine app_src _ rfl _ _ 35 rfl w.heap.size 34 i (.agg (cel (sEth1 oEth1))) 65 72 Tryd.underlying35 II.out.1 II.out.2.1 II.out.2.2.1 II.out.2.2.2 (by show (cel _).size = _; rw [cel_size]; rfl) (by omega) _ 0 [] rfl (World.ownsRow_made _ #[] 0 (Nat.le_refl _) (Nat.zero_le _) rfl) _ _ _ news rfl HS.out (by unfold maxLen; omega) (by omega) (by simp) ?_; intro v6 w6 ho hg; obtain ⟨a6, c6, rfl⟩ := owns_form ho)
    go_ret
    rw [Nat.zero_add, List.nil_append] at ho
    exact ⟨a6, c6, rfl, ho, below_grownS ((Below.refl _ _).alloc (Nat.le_refl _) _) (World.ownsRow_made (e := 34) (size := 65) _ #[] 0 (Nat.le_refl _) (Nat.zero_le _) rfl) (by simp) hg⟩

theorem eqnilV (w : World) (a : Option Addr) (l c : Nat) : (binOp .eql 36 (.slice a l c) (.slice none 0 0)).run Tryd.prog w = .ok (.bool a.isNone) w := by
  simp only [binOp]
  simp [run_equal_slice_nil w 36 58 a l c Tryd.underlying36]

set_option maxHeartbeats 1000000 in
theorem clV (a : Option Addr) (n c : Nat) (news : List Value) (w : World) (hs : Src w 86 a n c news) (hb : n * 128 ≤ 140737488351232) :
    Calls Tryd.prog 31 #[.slice a n c] w fun e w' => ∃ a' c', e = .returned (.slice a' n c') ∧ w'.ownsRow w.heap.size 58 86 (.slice a' n c') n news ∧ Below w.heap.size w w' := by
  cases a with
  | none =>
    obtain ⟨rfl, rfl⟩ := hs.1 rfl
    obtain rfl : news = [] := List.length_eq_zero_iff.1 (by rw [hs.2.1, Nat.zero_mul])
    have q := eqnilV w none 0 0
    go_enter Tryd.func31, Tryd.ntmps31
    go_wp2
    go_ret
    exact ⟨none, 0, rfl, World.ownsRow_nil _ _ _ _, Below.refl _ _⟩
  | some x =>
    obtain ⟨i, hi, hz0, hz1, hz2⟩ := info_out (P := Tryd.prog) (t := 58) (z := .agg (cel (sValidator oValidator))) (s := 86) (b := 128) (by kernel_rfl)
    have II := hid (And.intro hi (And.intro hz0 (And.intro hz1 hz2)))
    have HS := hid (hs.below ((Below.refl w.heap.size w).alloc (Nat.le_refl _) (.cells #[] 58)))
    have q := eqnilV w (some x) n c
    clear hs hi hz0 hz1 hz2
    go_enter Tryd.func31, Tryd.ntmps31
    go_wp2_with (at_builtin; refine app_src _ rfl _ _ 36 rfl w.heap.size 58 i (.agg (cel (sValidator oValidator))) 86 128 Tryd.underlying36 II.out.1 II.out.2.1 II.out.2.2.1 II.out.2.2.2 (by show (cel _).size = _; rw [cel_size]; rfl) (by omega) _ 0 [] rfl (World.ownsRow_made _ #[] 0 (Nat.le_refl _) (Nat.zero_le _) rfl) _ _ _ news rfl HS.out (by unfold maxLen; omega) (by omega) (by simp) ?_; intro v6 w6 ho hg; obtain ⟨a6, c6, rfl⟩ := owns_form ho)
    go_ret
    rw [Nat.zero_add, List.nil_append] at ho
    exact ⟨a6, c6, rfl, ho, below_grownS ((Below.refl _ _).alloc (Nat.le_refl _) _) (World.ownsRow_made (e := 58) (size := 86) _ #[] 0 (Nat.le_refl _) (Nat.zero_le _) rfl) (by simp) hg⟩

theorem eqnilU (w : World) (a : Option Addr) (l c : Nat) : (binOp .eql 37 (.slice a l c) (.slice none 0 0)).run Tryd.prog w = .ok (.bool a.isNone) w := by
  simp only [binOp]
  simp [run_equal_slice_nil w 37 22 a l c Tryd.underlying37]

set_option maxHeartbeats 1000000 in
theorem clU (a : Option Addr) (n c : Nat) (news : List Value) (w : World) (hs : Src w 1 a n c news) (hb : n * 8 ≤ 140737488351232) :
    Calls Tryd.prog 32 #[.slice a n c] w fun e w' => ∃ a' c', e = .returned (.slice a' n c') ∧ w'.ownsRow w.heap.size 22 1 (.slice a' n c') n news ∧ Below w.heap.size w w' := by
  cases a with
  | none =>
    obtain ⟨rfl, rfl⟩ := hs.1 rfl
    obtain rfl : news = [] := List.length_eq_zero_iff.1 (by rw [hs.2.1, Nat.zero_mul])
    have q := eqnilU w none 0 0
    go_enter Tryd.func32, Tryd.ntmps32
    go_wp2
    go_ret
    exact ⟨none, 0, rfl, World.ownsRow_nil _ _ _ _, Below.refl _ _⟩
  | some x =>
    obtain ⟨i, hi, hz0, hz1, hz2⟩ := info_out (P := Tryd.prog) (t := 22) (z := .int .u64 0) (s := 1) (b := 8) (by kernel_rfl)
    have II := hid (And.intro hi (And.intro hz0 (And.intro hz1 hz2)))
    have HS := hid (hs.below ((Below.refl w.heap.size w).alloc (Nat.le_refl _) (.cells #[] 22)))
    have q := eqnilU w (some x) n c
    clear hs hi hz0 hz1 hz2
    go_enter Tryd.func32, Tryd.ntmps32
    go_wp2_with (at_builtin; refine app_src _ rfl _ _ 37 rfl w.heap.size 22 i (.int .u64 0) 1 8 Tryd.underlying37 II.out.1 II.out.2.1 II.out.2.2.1 II.out.2.2.2 (by rfl) (by omega) _ 0 [] rfl (World.ownsRow_made _ #[] 0 (Nat.le_refl _) (Nat.zero_le _) rfl) _ _ _ news rfl HS.out (by unfold maxLen; omega) (by omega) (by simp) ?_; intro v6 w6 ho hg; obtain ⟨a6, c6, rfl⟩ := owns_form ho)
    go_ret
    rw [Nat.zero_add, List.nil_append] at ho
    exact ⟨a6, c6, rfl, ho, below_grownS ((Below.refl _ _).alloc (Nat.le_refl _) _) (World.ownsRow_made (e := 22) (size := 1) _ #[] 0 (Nat.le_refl _) (Nat.zero_le _) rfl) (by simp) hg⟩

theorem eqnilB (w : World) (a : Option Addr) (l c : Nat) : (binOp .eql 39 (.slice a l c) (.slice none 0 0)).run Tryd.prog w = .ok (.bool a.isNone) w := by
  simp only [binOp]
  simp [run_equal_slice_nil w 39 5 a l c Tryd.underlying39]

set_option maxHeartbeats 1000000 in
theorem clB (a : Option Addr) (n c : Nat) (news : List Value) (w : World) (hs : Src w 1 a n c news) (hb : n * 1 ≤ 140737488351232) :
    Calls Tryd.prog 33 #[.slice a n c] w fun e w' => ∃ a' c', e = .returned (.slice a' n c') ∧ w'.ownsRow w.heap.size 5 1 (.slice a' n c') n news ∧ Below w.heap.size w w' := by
  cases a with
  | none =>
    obtain ⟨rfl, rfl⟩ := hs.1 rfl
    obtain rfl : news = [] := List.length_eq_zero_iff.1 (by rw [hs.2.1, Nat.zero_mul])
    have q := eqnilB w none 0 0
    go_enter Tryd.func33, Tryd.ntmps33
    go_wp2
    go_ret
    exact ⟨none, 0, rfl, World.ownsRow_nil _ _ _ _, Below.refl _ _⟩
  | some x =>
    obtain ⟨i, hi, hz0, hz1, hz2⟩ := info_out (P := Tryd.prog) (t := 5) (z := .int .u8 0) (s := 1) (b := 1) (by kernel_rfl)
    have II := hid (And.intro hi (And.intro hz0 (And.intro hz1 hz2)))
    have HS := hid (hs.below ((Below.refl w.heap.size w).alloc (Nat.le_refl _) (.cells #[] 5)))
    have q := eqnilB w (some x) n c
    clear hs hi hz0 hz1 hz2
    go_enter Tryd.func33, Tryd.ntmps33
    go_wp2_with (at_builtin; refine app_src _ rfl _ _ 39 rfl w.heap.size 5 i (.int .u8 0) 1 1 Tryd.underlying39 II.out.1 II.out.2.1 II.out.2.2.1 II.out.2.2.2 (by rfl) (by omega) _ 0 [] rfl (World.ownsRow_made _ #[] 0 (Nat.le_refl _) (Nat.zero_le _) rfl) _ _ _ news rfl HS.out (by unfold maxLen; omega) (by omega) (by simp) ?_; intro v6 w6 ho hg; obtain ⟨a6, c6, rfl⟩ := owns_form ho)
    go_ret
    rw [Nat.zero_add, List.nil_append] at ho
    exact ⟨a6, c6, rfl, ho, below_grownS ((Below.refl _ _).alloc (Nat.le_refl _) _) (World.ownsRow_made (e := 5) (size := 1) _ #[] 0 (Nat.le_refl _) (Nat.zero_le _) rfl) (by simp) hg⟩

end Go.Proofs.YtpnpmgeokicpjaaDoor
