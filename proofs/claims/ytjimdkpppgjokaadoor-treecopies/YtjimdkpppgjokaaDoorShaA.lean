/-
  What turn and rot answer: a word turned to the right.
-/
import Derived.Test.YtjimdkpppgjokaaDoorRows
import Derived.WalkKit
import Derived.WalkSpells
import Derived.WalkLawsBesides
import Derived.OpenShut
import Derived.Handy
import Derived.Deep.RegionHeld3
import Derived.Laws.BitsAllLaws
namespace Go.Proofs.YtjimdkpppgjokaaDoor
open Go.RowKit
set_option linter.unusedVariables false

theorem hid {p : Prop} (h : p) : Hid p := h
theorem ret1 {k : IntKind} {a b : Int} (h : a = b) : Ending.returned (.int k a) = .returned (.int k b) := by rw [h]

/-- A word turned to the right: p is 2^k, q is 2^(32-k). -/
def rr (p q x : Int) : Int := bits .or .u32 (x / p) (x * q % 4294967296)
theorem rr_bd (p q x : Int) : 0 ≤ rr p q x ∧ rr p q x < 4294967296 := by
  have := bits_within .or .u32 (x / p) (x * q % 4294967296)
  have e1 : IntKind.u32.min = 0 := by decide
  have e2 : IntKind.u32.max = 4294967295 := by decide
  unfold rr
  omega
theorem or_swap (a b : Int) (h1 : 0 ≤ a) (h2 : a < 4294967296) (h3 : 0 ≤ b) (h4 : b < 4294967296) : bits .or .u32 a b = bits .or .u32 b a := by
  rw [u32_or a b h1 h2 h3 h4, u32_or b a h3 h4 h1 h2, Nat.or_comm]

theorem rot_2 (x : Int) (w : World) (h0 : 0 ≤ x) (h1 : x < 4294967296) :
    Calls Tryd.prog 78 #[.int .u32 x, .int .u64 2] w fun e w' => e = .returned (.int .u32 (rr 4 1073741824 x)) ∧ w' = w := by
  go_enter Tryd.func78, Tryd.ntmps78
  go_wp2
  go_ret
  exact ⟨rfl, rfl⟩

theorem turn_2 (x : Int) (w : World) (h0 : 0 ≤ x) (h1 : x < 4294967296) :
    Calls Tryd.prog 55 #[.int .u32 x, .int .i64 2] w fun e w' => e = .returned (.int .u32 (rr 4 1073741824 x)) ∧ w' = w := by
  have hc : bits .and .u64 (IntKind.u64.wrap (-2)) 31 = 30 := by decide
  have hR : Calls Tryd.prog 67 #[.int .u32 x, .int .i64 (-2)] w fun e w' => e = .returned (.int .u32 (rr 4 1073741824 x)) ∧ w' = w := by
    go_enter Tryd.func67, Tryd.ntmps67
    go_wp2
    go_ret
    exact ⟨ret1 (or_swap _ _ (by omega) (by omega) (by omega) (by omega)), rfl⟩
  go_enter Tryd.func55, Tryd.ntmps55
  go_wp2_with (go_at_call 67; refine hR.mono ?_; rintro e w' ⟨rfl, rfl⟩)
  go_ret
  exact ⟨rfl, rfl⟩

theorem rot_6 (x : Int) (w : World) (h0 : 0 ≤ x) (h1 : x < 4294967296) :
    Calls Tryd.prog 78 #[.int .u32 x, .int .u64 6] w fun e w' => e = .returned (.int .u32 (rr 64 67108864 x)) ∧ w' = w := by
  go_enter Tryd.func78, Tryd.ntmps78
  go_wp2
  go_ret
  exact ⟨rfl, rfl⟩

theorem turn_6 (x : Int) (w : World) (h0 : 0 ≤ x) (h1 : x < 4294967296) :
    Calls Tryd.prog 55 #[.int .u32 x, .int .i64 6] w fun e w' => e = .returned (.int .u32 (rr 64 67108864 x)) ∧ w' = w := by
  have hc : bits .and .u64 (IntKind.u64.wrap (-6)) 31 = 26 := by decide
  have hR : Calls Tryd.prog 67 #[.int .u32 x, .int .i64 (-6)] w fun e w' => e = .returned (.int .u32 (rr 64 67108864 x)) ∧ w' = w := by
    go_enter Tryd.func67, Tryd.ntmps67
    go_wp2
    go_ret
    exact ⟨ret1 (or_swap _ _ (by omega) (by omega) (by omega) (by omega)), rfl⟩
  go_enter Tryd.func55, Tryd.ntmps55
  go_wp2_with (go_at_call 67; refine hR.mono ?_; rintro e w' ⟨rfl, rfl⟩)
  go_ret
  exact ⟨rfl, rfl⟩

theorem rot_7 (x : Int) (w : World) (h0 : 0 ≤ x) (h1 : x < 4294967296) :
    Calls Tryd.prog 78 #[.int .u32 x, .int .u64 7] w fun e w' => e = .returned (.int .u32 (rr 128 33554432 x)) ∧ w' = w := by
  go_enter Tryd.func78, Tryd.ntmps78
  go_wp2
  go_ret
  exact ⟨rfl, rfl⟩

theorem turn_7 (x : Int) (w : World) (h0 : 0 ≤ x) (h1 : x < 4294967296) :
    Calls Tryd.prog 55 #[.int .u32 x, .int .i64 7] w fun e w' => e = .returned (.int .u32 (rr 128 33554432 x)) ∧ w' = w := by
  have hc : bits .and .u64 (IntKind.u64.wrap (-7)) 31 = 25 := by decide
  have hR : Calls Tryd.prog 67 #[.int .u32 x, .int .i64 (-7)] w fun e w' => e = .returned (.int .u32 (rr 128 33554432 x)) ∧ w' = w := by
    go_enter Tryd.func67, Tryd.ntmps67
    go_wp2
    go_ret
    exact ⟨ret1 (or_swap _ _ (by omega) (by omega) (by omega) (by omega)), rfl⟩
  go_enter Tryd.func55, Tryd.ntmps55
  go_wp2_with (go_at_call 67; refine hR.mono ?_; rintro e w' ⟨rfl, rfl⟩)
  go_ret
  exact ⟨rfl, rfl⟩

theorem rot_11 (x : Int) (w : World) (h0 : 0 ≤ x) (h1 : x < 4294967296) :
    Calls Tryd.prog 78 #[.int .u32 x, .int .u64 11] w fun e w' => e = .returned (.int .u32 (rr 2048 2097152 x)) ∧ w' = w := by
  go_enter Tryd.func78, Tryd.ntmps78
  go_wp2
  go_ret
  exact ⟨rfl, rfl⟩

theorem turn_11 (x : Int) (w : World) (h0 : 0 ≤ x) (h1 : x < 4294967296) :
    Calls Tryd.prog 55 #[.int .u32 x, .int .i64 11] w fun e w' => e = .returned (.int .u32 (rr 2048 2097152 x)) ∧ w' = w := by
  have hc : bits .and .u64 (IntKind.u64.wrap (-11)) 31 = 21 := by decide
  have hR : Calls Tryd.prog 67 #[.int .u32 x, .int .i64 (-11)] w fun e w' => e = .returned (.int .u32 (rr 2048 2097152 x)) ∧ w' = w := by
    go_enter Tryd.func67, Tryd.ntmps67
    go_wp2
    go_ret
    exact ⟨ret1 (or_swap _ _ (by omega) (by omega) (by omega) (by omega)), rfl⟩
  go_enter Tryd.func55, Tryd.ntmps55
  go_wp2_with (go_at_call 67; refine hR.mono ?_; rintro e w' ⟨rfl, rfl⟩)
  go_ret
  exact ⟨rfl, rfl⟩

theorem rot_13 (x : Int) (w : World) (h0 : 0 ≤ x) (h1 : x < 4294967296) :
    Calls Tryd.prog 78 #[.int .u32 x, .int .u64 13] w fun e w' => e = .returned (.int .u32 (rr 8192 524288 x)) ∧ w' = w := by
  go_enter Tryd.func78, Tryd.ntmps78
  go_wp2
  go_ret
  exact ⟨rfl, rfl⟩

theorem turn_13 (x : Int) (w : World) (h0 : 0 ≤ x) (h1 : x < 4294967296) :
    Calls Tryd.prog 55 #[.int .u32 x, .int .i64 13] w fun e w' => e = .returned (.int .u32 (rr 8192 524288 x)) ∧ w' = w := by
  have hc : bits .and .u64 (IntKind.u64.wrap (-13)) 31 = 19 := by decide
  have hR : Calls Tryd.prog 67 #[.int .u32 x, .int .i64 (-13)] w fun e w' => e = .returned (.int .u32 (rr 8192 524288 x)) ∧ w' = w := by
    go_enter Tryd.func67, Tryd.ntmps67
    go_wp2
    go_ret
    exact ⟨ret1 (or_swap _ _ (by omega) (by omega) (by omega) (by omega)), rfl⟩
  go_enter Tryd.func55, Tryd.ntmps55
  go_wp2_with (go_at_call 67; refine hR.mono ?_; rintro e w' ⟨rfl, rfl⟩)
  go_ret
  exact ⟨rfl, rfl⟩

theorem rot_17 (x : Int) (w : World) (h0 : 0 ≤ x) (h1 : x < 4294967296) :
    Calls Tryd.prog 78 #[.int .u32 x, .int .u64 17] w fun e w' => e = .returned (.int .u32 (rr 131072 32768 x)) ∧ w' = w := by
  go_enter Tryd.func78, Tryd.ntmps78
  go_wp2
  go_ret
  exact ⟨rfl, rfl⟩

theorem turn_17 (x : Int) (w : World) (h0 : 0 ≤ x) (h1 : x < 4294967296) :
    Calls Tryd.prog 55 #[.int .u32 x, .int .i64 17] w fun e w' => e = .returned (.int .u32 (rr 131072 32768 x)) ∧ w' = w := by
  have hc : bits .and .u64 (IntKind.u64.wrap (-17)) 31 = 15 := by decide
  have hR : Calls Tryd.prog 67 #[.int .u32 x, .int .i64 (-17)] w fun e w' => e = .returned (.int .u32 (rr 131072 32768 x)) ∧ w' = w := by
    go_enter Tryd.func67, Tryd.ntmps67
    go_wp2
    go_ret
    exact ⟨ret1 (or_swap _ _ (by omega) (by omega) (by omega) (by omega)), rfl⟩
  go_enter Tryd.func55, Tryd.ntmps55
  go_wp2_with (go_at_call 67; refine hR.mono ?_; rintro e w' ⟨rfl, rfl⟩)
  go_ret
  exact ⟨rfl, rfl⟩

theorem rot_18 (x : Int) (w : World) (h0 : 0 ≤ x) (h1 : x < 4294967296) :
    Calls Tryd.prog 78 #[.int .u32 x, .int .u64 18] w fun e w' => e = .returned (.int .u32 (rr 262144 16384 x)) ∧ w' = w := by
  go_enter Tryd.func78, Tryd.ntmps78
  go_wp2
  go_ret
  exact ⟨rfl, rfl⟩

theorem turn_18 (x : Int) (w : World) (h0 : 0 ≤ x) (h1 : x < 4294967296) :
    Calls Tryd.prog 55 #[.int .u32 x, .int .i64 18] w fun e w' => e = .returned (.int .u32 (rr 262144 16384 x)) ∧ w' = w := by
  have hc : bits .and .u64 (IntKind.u64.wrap (-18)) 31 = 14 := by decide
  have hR : Calls Tryd.prog 67 #[.int .u32 x, .int .i64 (-18)] w fun e w' => e = .returned (.int .u32 (rr 262144 16384 x)) ∧ w' = w := by
    go_enter Tryd.func67, Tryd.ntmps67
    go_wp2
    go_ret
    exact ⟨ret1 (or_swap _ _ (by omega) (by omega) (by omega) (by omega)), rfl⟩
  go_enter Tryd.func55, Tryd.ntmps55
  go_wp2_with (go_at_call 67; refine hR.mono ?_; rintro e w' ⟨rfl, rfl⟩)
  go_ret
  exact ⟨rfl, rfl⟩

theorem rot_19 (x : Int) (w : World) (h0 : 0 ≤ x) (h1 : x < 4294967296) :
    Calls Tryd.prog 78 #[.int .u32 x, .int .u64 19] w fun e w' => e = .returned (.int .u32 (rr 524288 8192 x)) ∧ w' = w := by
  go_enter Tryd.func78, Tryd.ntmps78
  go_wp2
  go_ret
  exact ⟨rfl, rfl⟩

theorem turn_19 (x : Int) (w : World) (h0 : 0 ≤ x) (h1 : x < 4294967296) :
    Calls Tryd.prog 55 #[.int .u32 x, .int .i64 19] w fun e w' => e = .returned (.int .u32 (rr 524288 8192 x)) ∧ w' = w := by
  have hc : bits .and .u64 (IntKind.u64.wrap (-19)) 31 = 13 := by decide
  have hR : Calls Tryd.prog 67 #[.int .u32 x, .int .i64 (-19)] w fun e w' => e = .returned (.int .u32 (rr 524288 8192 x)) ∧ w' = w := by
    go_enter Tryd.func67, Tryd.ntmps67
    go_wp2
    go_ret
    exact ⟨ret1 (or_swap _ _ (by omega) (by omega) (by omega) (by omega)), rfl⟩
  go_enter Tryd.func55, Tryd.ntmps55
  go_wp2_with (go_at_call 67; refine hR.mono ?_; rintro e w' ⟨rfl, rfl⟩)
  go_ret
  exact ⟨rfl, rfl⟩

theorem rot_22 (x : Int) (w : World) (h0 : 0 ≤ x) (h1 : x < 4294967296) :
    Calls Tryd.prog 78 #[.int .u32 x, .int .u64 22] w fun e w' => e = .returned (.int .u32 (rr 4194304 1024 x)) ∧ w' = w := by
  go_enter Tryd.func78, Tryd.ntmps78
  go_wp2
  go_ret
  exact ⟨rfl, rfl⟩

theorem turn_22 (x : Int) (w : World) (h0 : 0 ≤ x) (h1 : x < 4294967296) :
    Calls Tryd.prog 55 #[.int .u32 x, .int .i64 22] w fun e w' => e = .returned (.int .u32 (rr 4194304 1024 x)) ∧ w' = w := by
  have hc : bits .and .u64 (IntKind.u64.wrap (-22)) 31 = 10 := by decide
  have hR : Calls Tryd.prog 67 #[.int .u32 x, .int .i64 (-22)] w fun e w' => e = .returned (.int .u32 (rr 4194304 1024 x)) ∧ w' = w := by
    go_enter Tryd.func67, Tryd.ntmps67
    go_wp2
    go_ret
    exact ⟨ret1 (or_swap _ _ (by omega) (by omega) (by omega) (by omega)), rfl⟩
  go_enter Tryd.func55, Tryd.ntmps55
  go_wp2_with (go_at_call 67; refine hR.mono ?_; rintro e w' ⟨rfl, rfl⟩)
  go_ret
  exact ⟨rfl, rfl⟩

theorem rot_25 (x : Int) (w : World) (h0 : 0 ≤ x) (h1 : x < 4294967296) :
    Calls Tryd.prog 78 #[.int .u32 x, .int .u64 25] w fun e w' => e = .returned (.int .u32 (rr 33554432 128 x)) ∧ w' = w := by
  go_enter Tryd.func78, Tryd.ntmps78
  go_wp2
  go_ret
  exact ⟨rfl, rfl⟩

theorem turn_25 (x : Int) (w : World) (h0 : 0 ≤ x) (h1 : x < 4294967296) :
    Calls Tryd.prog 55 #[.int .u32 x, .int .i64 25] w fun e w' => e = .returned (.int .u32 (rr 33554432 128 x)) ∧ w' = w := by
  have hc : bits .and .u64 (IntKind.u64.wrap (-25)) 31 = 7 := by decide
  have hR : Calls Tryd.prog 67 #[.int .u32 x, .int .i64 (-25)] w fun e w' => e = .returned (.int .u32 (rr 33554432 128 x)) ∧ w' = w := by
    go_enter Tryd.func67, Tryd.ntmps67
    go_wp2
    go_ret
    exact ⟨ret1 (or_swap _ _ (by omega) (by omega) (by omega) (by omega)), rfl⟩
  go_enter Tryd.func55, Tryd.ntmps55
  go_wp2_with (go_at_call 67; refine hR.mono ?_; rintro e w' ⟨rfl, rfl⟩)
  go_ret
  exact ⟨rfl, rfl⟩

/-- A word turned by k bits to the right. -/
def rt (k x : Int) : Int := rr (2 ^ k.toNat) (2 ^ (32 - k.toNat)) x
theorem rt_bd (k x : Int) : 0 ≤ rt k x ∧ rt k x < 4294967296 := rr_bd _ _ _
def turns : List Int := [2, 6, 7, 11, 13, 17, 18, 19, 22, 25]
theorem rt_2 (x : Int) : rt 2 x = rr 4 1073741824 x := rfl
theorem rt_6 (x : Int) : rt 6 x = rr 64 67108864 x := rfl
theorem rt_7 (x : Int) : rt 7 x = rr 128 33554432 x := rfl
theorem rt_11 (x : Int) : rt 11 x = rr 2048 2097152 x := rfl
theorem rt_13 (x : Int) : rt 13 x = rr 8192 524288 x := rfl
theorem rt_17 (x : Int) : rt 17 x = rr 131072 32768 x := rfl
theorem rt_18 (x : Int) : rt 18 x = rr 262144 16384 x := rfl
theorem rt_19 (x : Int) : rt 19 x = rr 524288 8192 x := rfl
theorem rt_22 (x : Int) : rt 22 x = rr 4194304 1024 x := rfl
theorem rt_25 (x : Int) : rt 25 x = rr 33554432 128 x := rfl

theorem rot_any (k x : Int) (w : World) (h0 : 0 ≤ x) (h1 : x < 4294967296) (hk : k ∈ turns) :
    Calls Tryd.prog 78 #[.int .u32 x, .int .u64 k] w fun e w' => e = .returned (.int .u32 (rt k x)) ∧ w' = w := by
  simp only [turns, List.mem_cons, List.not_mem_nil, or_false] at hk
  rcases hk with rfl | rfl | rfl | rfl | rfl | rfl | rfl | rfl | rfl | rfl
  · rw [rt_2]; exact rot_2 x w h0 h1
  · rw [rt_6]; exact rot_6 x w h0 h1
  · rw [rt_7]; exact rot_7 x w h0 h1
  · rw [rt_11]; exact rot_11 x w h0 h1
  · rw [rt_13]; exact rot_13 x w h0 h1
  · rw [rt_17]; exact rot_17 x w h0 h1
  · rw [rt_18]; exact rot_18 x w h0 h1
  · rw [rt_19]; exact rot_19 x w h0 h1
  · rw [rt_22]; exact rot_22 x w h0 h1
  · rw [rt_25]; exact rot_25 x w h0 h1

theorem turn_any (k x : Int) (w : World) (h0 : 0 ≤ x) (h1 : x < 4294967296) (hk : k ∈ turns) :
    Calls Tryd.prog 55 #[.int .u32 x, .int .i64 k] w fun e w' => e = .returned (.int .u32 (rt k x)) ∧ w' = w := by
  simp only [turns, List.mem_cons, List.not_mem_nil, or_false] at hk
  rcases hk with rfl | rfl | rfl | rfl | rfl | rfl | rfl | rfl | rfl | rfl
  · rw [rt_2]; exact turn_2 x w h0 h1
  · rw [rt_6]; exact turn_6 x w h0 h1
  · rw [rt_7]; exact turn_7 x w h0 h1
  · rw [rt_11]; exact turn_11 x w h0 h1
  · rw [rt_13]; exact turn_13 x w h0 h1
  · rw [rt_17]; exact turn_17 x w h0 h1
  · rw [rt_18]; exact turn_18 x w h0 h1
  · rw [rt_19]; exact turn_19 x w h0 h1
  · rw [rt_22]; exact turn_22 x w h0 h1
  · rw [rt_25]; exact turn_25 x w h0 h1

end Go.Proofs.YtjimdkpppgjokaaDoor
