/-
  Whether a state is right.
  Whether a state is right: its numbers and validators.
-/
import Derived.Test.YtficlakgameglaaDoorStA
namespace Go.Proofs.YtficlakgameglaaDoor

open Go.RowKit

set_option linter.unusedVariables false

set_option linter.unusedSimpArgs false

set_option maxRecDepth 20000

attribute [local go_sem ↓] lvState_eq svState_eq bdState_eq lvValidator_eq svValidator_eq

def fitB (x : VState) : Bool := decide ((x.f7.n : Int) ≤ 1024) && decide ((x.f9.n : Int) ≤ 8) && decide ((x.f11.n : Int) ≤ 65536) && decide ((x.f12.n : Int) ≤ 65536) && decide ((x.f15.n : Int) ≤ 65536) && decide ((x.f16.n : Int) ≤ 65536) && decide ((x.f21.n : Int) ≤ 65536)

set_option maxHeartbeats 1000000 in
theorem fit_any (x : VState) (w : World) :
    Calls Tryd.prog 21 #[.agg (cel (sState x))] w fun e w' => e = .returned (.bool (fitB x)) ∧ Below w.heap.size w w' := by
  obtain ⟨W0, hW0⟩ : ∃ W, w.alloc (.cells (cel (sState x)) 49) = W := ⟨_, rfl⟩
  have hB0 : Below w.heap.size w W0 := by rw [← hW0]; exact (Below.refl _ _).alloc (Nat.le_refl _) _
  have r0 : W0.heap[w.heap.size]? = some (.cells (cel (sState x)) 49) := by rw [← hW0]; exact heap_new rfl
  have z0 : w.heap.size < W0.heap.size := by rw [← hW0]; simp
  obtain ⟨y, ey⟩ : ∃ y, w.heap.size = y := ⟨_, rfl⟩
  have l7 : W0.cell? ⟨y, 653, none⟩ = some (.slice x.f7.a x.f7.n x.f7.c) := by rw [← ey]; exact cS7 r0
  have l9 : W0.cell? ⟨y, 719, none⟩ = some (.slice x.f9.a x.f9.n x.f9.c) := by rw [← ey]; exact cS9 r0
  have l11 : W0.cell? ⟨y, 721, none⟩ = some (.slice x.f11.a x.f11.n x.f11.c) := by rw [← ey]; exact cS11 r0
  have l12 : W0.cell? ⟨y, 722, none⟩ = some (.slice x.f12.a x.f12.n x.f12.c) := by rw [← ey]; exact cS12 r0
  have l15 : W0.cell? ⟨y, 987, none⟩ = some (.slice x.f15.a x.f15.n x.f15.c) := by rw [← ey]; exact cS15 r0
  have l16 : W0.cell? ⟨y, 988, none⟩ = some (.slice x.f16.a x.f16.n x.f16.c) := by rw [← ey]; exact cS16 r0
  have l21 : W0.cell? ⟨y, 1092, none⟩ = some (.slice x.f21.a x.f21.n x.f21.c) := by rw [← ey]; exact cS21 r0
  have HB0w := hid hB0
  clear hB0 r0
  by_cases h0 : (x.f7.n : Int) ≤ 1024
  · skip
    by_cases h1 : (x.f9.n : Int) ≤ 8
    · skip
      by_cases h2 : (x.f11.n : Int) ≤ 65536
      · skip
        by_cases h3 : (x.f12.n : Int) ≤ 65536
        · skip
          by_cases h4 : (x.f15.n : Int) ≤ 65536
          · skip
            by_cases h5 : (x.f16.n : Int) ≤ 65536
            · skip
              by_cases h6 : (x.f21.n : Int) ≤ 65536
              · skip
                have FB := hid (show fitB x = true from by unfold fitB; rw [decide_eq_true h0, decide_eq_true h1, decide_eq_true h2, decide_eq_true h3, decide_eq_true h4, decide_eq_true h5, decide_eq_true h6]; simp only [Bool.and_false, Bool.false_and, Bool.true_and, Bool.and_true])
                go_enter Tryd.func21, Tryd.ntmps21
                go_upto_region 1 with fail
                clear hW0 ey z0
                go_wp2
                go_ret
                exact ⟨by rw [FB.out]; rfl, HB0w.out⟩
              · skip
                have FB := hid (show fitB x = false from by unfold fitB; rw [decide_eq_true h0, decide_eq_true h1, decide_eq_true h2, decide_eq_true h3, decide_eq_true h4, decide_eq_true h5, decide_eq_false h6]; simp only [Bool.and_false, Bool.false_and, Bool.true_and, Bool.and_true])
                go_enter Tryd.func21, Tryd.ntmps21
                go_upto_region 1 with fail
                clear hW0 ey z0
                go_wp2
                go_ret
                exact ⟨by rw [FB.out]; rfl, HB0w.out⟩
            · skip
              have FB := hid (show fitB x = false from by unfold fitB; rw [decide_eq_true h0, decide_eq_true h1, decide_eq_true h2, decide_eq_true h3, decide_eq_true h4, decide_eq_false h5]; simp only [Bool.and_false, Bool.false_and, Bool.true_and, Bool.and_true])
              go_enter Tryd.func21, Tryd.ntmps21
              go_upto_region 1 with fail
              clear hW0 ey z0
              go_wp2
              go_ret
              exact ⟨by rw [FB.out]; rfl, HB0w.out⟩
          · skip
            have FB := hid (show fitB x = false from by unfold fitB; rw [decide_eq_true h0, decide_eq_true h1, decide_eq_true h2, decide_eq_true h3, decide_eq_false h4]; simp only [Bool.and_false, Bool.false_and, Bool.true_and, Bool.and_true])
            go_enter Tryd.func21, Tryd.ntmps21
            go_upto_region 1 with fail
            clear hW0 ey z0
            go_wp2
            go_ret
            exact ⟨by rw [FB.out]; rfl, HB0w.out⟩
        · skip
          have FB := hid (show fitB x = false from by unfold fitB; rw [decide_eq_true h0, decide_eq_true h1, decide_eq_true h2, decide_eq_false h3]; simp only [Bool.and_false, Bool.false_and, Bool.true_and, Bool.and_true])
          go_enter Tryd.func21, Tryd.ntmps21
          go_upto_region 1 with fail
          clear hW0 ey z0
          go_wp2
          go_ret
          exact ⟨by rw [FB.out]; rfl, HB0w.out⟩
      · skip
        have FB := hid (show fitB x = false from by unfold fitB; rw [decide_eq_true h0, decide_eq_true h1, decide_eq_false h2]; simp only [Bool.and_false, Bool.false_and, Bool.true_and, Bool.and_true])
        go_enter Tryd.func21, Tryd.ntmps21
        go_upto_region 1 with fail
        clear hW0 ey z0
        go_wp2
        go_ret
        exact ⟨by rw [FB.out]; rfl, HB0w.out⟩
    · skip
      have FB := hid (show fitB x = false from by unfold fitB; rw [decide_eq_true h0, decide_eq_false h1]; simp only [Bool.and_false, Bool.false_and, Bool.true_and, Bool.and_true])
      go_enter Tryd.func21, Tryd.ntmps21
      go_upto_region 1 with fail
      clear hW0 ey z0
      go_wp2
      go_ret
      exact ⟨by rw [FB.out]; rfl, HB0w.out⟩
  · skip
    have FB := hid (show fitB x = false from by unfold fitB; rw [decide_eq_false h0]; simp only [Bool.and_false, Bool.false_and, Bool.true_and, Bool.and_true])
    go_enter Tryd.func21, Tryd.ntmps21
    go_upto_region 1 with fail
    clear hW0 ey z0
    go_wp2
    go_ret
    exact ⟨by rw [FB.out]; rfl, HB0w.out⟩

def lensB (x : VState) : Bool := decide ((x.f12.n : Int) = (x.f11.n : Int)) && decide ((x.f15.n : Int) = (x.f11.n : Int)) && decide ((x.f16.n : Int) = (x.f11.n : Int)) && decide ((x.f21.n : Int) = (x.f11.n : Int))

set_option maxHeartbeats 1000000 in
theorem lens_any (x : VState) (w : World) :
    Calls Tryd.prog 22 #[.agg (cel (sState x))] w fun e w' => e = .returned (.bool (lensB x)) ∧ Below w.heap.size w w' := by
  obtain ⟨W0, hW0⟩ : ∃ W, w.alloc (.cells (cel (sState x)) 49) = W := ⟨_, rfl⟩
  have hB0 : Below w.heap.size w W0 := by rw [← hW0]; exact (Below.refl _ _).alloc (Nat.le_refl _) _
  have r0 : W0.heap[w.heap.size]? = some (.cells (cel (sState x)) 49) := by rw [← hW0]; exact heap_new rfl
  have z0 : w.heap.size < W0.heap.size := by rw [← hW0]; simp
  obtain ⟨y, ey⟩ : ∃ y, w.heap.size = y := ⟨_, rfl⟩
  have l11 : W0.cell? ⟨y, 721, none⟩ = some (.slice x.f11.a x.f11.n x.f11.c) := by rw [← ey]; exact cS11 r0
  have l12 : W0.cell? ⟨y, 722, none⟩ = some (.slice x.f12.a x.f12.n x.f12.c) := by rw [← ey]; exact cS12 r0
  have l15 : W0.cell? ⟨y, 987, none⟩ = some (.slice x.f15.a x.f15.n x.f15.c) := by rw [← ey]; exact cS15 r0
  have l16 : W0.cell? ⟨y, 988, none⟩ = some (.slice x.f16.a x.f16.n x.f16.c) := by rw [← ey]; exact cS16 r0
  have l21 : W0.cell? ⟨y, 1092, none⟩ = some (.slice x.f21.a x.f21.n x.f21.c) := by rw [← ey]; exact cS21 r0
  have HB0w := hid hB0
  clear hB0 r0
  by_cases h0 : (x.f12.n : Int) = (x.f11.n : Int)
  · skip
    by_cases h1 : (x.f15.n : Int) = (x.f11.n : Int)
    · skip
      by_cases h2 : (x.f16.n : Int) = (x.f11.n : Int)
      · skip
        by_cases h3 : (x.f21.n : Int) = (x.f11.n : Int)
        · skip
          have FB := hid (show lensB x = true from by unfold lensB; rw [decide_eq_true h0, decide_eq_true h1, decide_eq_true h2, decide_eq_true h3]; simp only [Bool.and_false, Bool.false_and, Bool.true_and, Bool.and_true])
          go_enter Tryd.func22, Tryd.ntmps22
          go_upto_region 1 with fail
          clear hW0 ey z0
          go_wp2
          go_ret
          exact ⟨by rw [FB.out]; rfl, HB0w.out⟩
        · skip
          have nb : ((x.f21.n : Int) == (x.f11.n : Int)) = false := beq_eq_false_iff_ne.2 h3
          have FB := hid (show lensB x = false from by unfold lensB; rw [decide_eq_true h0, decide_eq_true h1, decide_eq_true h2, decide_eq_false h3]; simp only [Bool.and_false, Bool.false_and, Bool.true_and, Bool.and_true])
          go_enter Tryd.func22, Tryd.ntmps22
          go_upto_region 1 with fail
          clear hW0 ey z0
          go_wp2
          go_ret
          exact ⟨by rw [FB.out]; rfl, HB0w.out⟩
      · skip
        have nb : ((x.f16.n : Int) == (x.f11.n : Int)) = false := beq_eq_false_iff_ne.2 h2
        have FB := hid (show lensB x = false from by unfold lensB; rw [decide_eq_true h0, decide_eq_true h1, decide_eq_false h2]; simp only [Bool.and_false, Bool.false_and, Bool.true_and, Bool.and_true])
        go_enter Tryd.func22, Tryd.ntmps22
        go_upto_region 1 with fail
        clear hW0 ey z0
        go_wp2
        go_ret
        exact ⟨by rw [FB.out]; rfl, HB0w.out⟩
    · skip
      have nb : ((x.f15.n : Int) == (x.f11.n : Int)) = false := beq_eq_false_iff_ne.2 h1
      have FB := hid (show lensB x = false from by unfold lensB; rw [decide_eq_true h0, decide_eq_false h1]; simp only [Bool.and_false, Bool.false_and, Bool.true_and, Bool.and_true])
      go_enter Tryd.func22, Tryd.ntmps22
      go_upto_region 1 with fail
      clear hW0 ey z0
      go_wp2
      go_ret
      exact ⟨by rw [FB.out]; rfl, HB0w.out⟩
  · skip
    have nb : ((x.f12.n : Int) == (x.f11.n : Int)) = false := beq_eq_false_iff_ne.2 h0
    have FB := hid (show lensB x = false from by unfold lensB; rw [decide_eq_false h0]; simp only [Bool.and_false, Bool.false_and, Bool.true_and, Bool.and_true])
    go_enter Tryd.func22, Tryd.ntmps22
    go_upto_region 1 with fail
    clear hW0 ey z0
    go_wp2
    go_ret
    exact ⟨by rw [FB.out]; rfl, HB0w.out⟩

def timB (x : VState) : Bool := decide (x.f2 < 1099511627776) && decide (x.f4.f0 ≤ x.f2) && decide (x.f18.f0 ≤ x.f2 / 4) && decide (x.f19.f0 ≤ x.f2 / 4) && decide (x.f20.f0 ≤ x.f2 / 4)

set_option maxHeartbeats 1000000 in
theorem tim_any (x : VState) (w : World) (hx : 0 ≤ x.f2 ∧ x.f2 < 18446744073709551616) :
    Calls Tryd.prog 23 #[.agg (cel (sState x))] w fun e w' => e = .returned (.bool (timB x)) ∧ Below w.heap.size w w' := by
  obtain ⟨W0, hW0⟩ : ∃ W, w.alloc (.cells (cel (sState x)) 49) = W := ⟨_, rfl⟩
  have hB0 : Below w.heap.size w W0 := by rw [← hW0]; exact (Below.refl _ _).alloc (Nat.le_refl _) _
  have r0 : W0.heap[w.heap.size]? = some (.cells (cel (sState x)) 49) := by rw [← hW0]; exact heap_new rfl
  have z0 : w.heap.size < W0.heap.size := by rw [← hW0]; simp
  obtain ⟨y, ey⟩ : ∃ y, w.heap.size = y := ⟨_, rfl⟩
  have l2 : W0.cell? ⟨y, 33, none⟩ = some (.int .u64 x.f2) := by rw [← ey]; exact cS2 r0
  have l4 : W0.cell? ⟨y, 43, none⟩ = some (.int .u64 x.f4.f0) := by rw [← ey]; exact cS4 r0
  have l18 : W0.cell? ⟨y, 993, none⟩ = some (.int .u64 x.f18.f0) := by rw [← ey]; exact cS18 r0
  have l19 : W0.cell? ⟨y, 1026, none⟩ = some (.int .u64 x.f19.f0) := by rw [← ey]; exact cS19 r0
  have l20 : W0.cell? ⟨y, 1059, none⟩ = some (.int .u64 x.f20.f0) := by rw [← ey]; exact cS20 r0
  have HB0w := hid hB0
  obtain ⟨hx0, hx1⟩ := hx
  clear hB0 r0
  by_cases h0 : x.f2 < 1099511627776
  · skip
    by_cases h1 : x.f4.f0 ≤ x.f2
    · skip
      by_cases h2 : x.f18.f0 ≤ x.f2 / 4
      · skip
        by_cases h3 : x.f19.f0 ≤ x.f2 / 4
        · skip
          by_cases h4 : x.f20.f0 ≤ x.f2 / 4
          · skip
            have FB := hid (show timB x = true from by unfold timB; rw [decide_eq_true h0, decide_eq_true h1, decide_eq_true h2, decide_eq_true h3, decide_eq_true h4]; simp only [Bool.and_false, Bool.false_and, Bool.true_and, Bool.and_true])
            go_enter Tryd.func23, Tryd.ntmps23
            go_upto_region 1 with fail
            clear hW0 ey z0
            go_wp2
            go_ret
            exact ⟨by rw [FB.out]; rfl, HB0w.out⟩
          · skip
            have FB := hid (show timB x = false from by unfold timB; rw [decide_eq_true h0, decide_eq_true h1, decide_eq_true h2, decide_eq_true h3, decide_eq_false h4]; simp only [Bool.and_false, Bool.false_and, Bool.true_and, Bool.and_true])
            go_enter Tryd.func23, Tryd.ntmps23
            go_upto_region 1 with fail
            clear hW0 ey z0
            go_wp2
            go_ret
            exact ⟨by rw [FB.out]; rfl, HB0w.out⟩
        · skip
          have FB := hid (show timB x = false from by unfold timB; rw [decide_eq_true h0, decide_eq_true h1, decide_eq_true h2, decide_eq_false h3]; simp only [Bool.and_false, Bool.false_and, Bool.true_and, Bool.and_true])
          go_enter Tryd.func23, Tryd.ntmps23
          go_upto_region 1 with fail
          clear hW0 ey z0
          go_wp2
          go_ret
          exact ⟨by rw [FB.out]; rfl, HB0w.out⟩
      · skip
        have FB := hid (show timB x = false from by unfold timB; rw [decide_eq_true h0, decide_eq_true h1, decide_eq_false h2]; simp only [Bool.and_false, Bool.false_and, Bool.true_and, Bool.and_true])
        go_enter Tryd.func23, Tryd.ntmps23
        go_upto_region 1 with fail
        clear hW0 ey z0
        go_wp2
        go_ret
        exact ⟨by rw [FB.out]; rfl, HB0w.out⟩
    · skip
      have FB := hid (show timB x = false from by unfold timB; rw [decide_eq_true h0, decide_eq_false h1]; simp only [Bool.and_false, Bool.false_and, Bool.true_and, Bool.and_true])
      go_enter Tryd.func23, Tryd.ntmps23
      go_upto_region 1 with fail
      clear hW0 ey z0
      go_wp2
      go_ret
      exact ⟨by rw [FB.out]; rfl, HB0w.out⟩
  · skip
    have FB := hid (show timB x = false from by unfold timB; rw [decide_eq_false h0]; simp only [Bool.and_false, Bool.false_and, Bool.true_and, Bool.and_true])
    go_enter Tryd.func23, Tryd.ntmps23
    go_upto_region 1 with fail
    clear hW0 ey z0
    go_wp2
    go_ret
    exact ⟨by rw [FB.out]; rfl, HB0w.out⟩

end Go.Proofs.YtficlakgameglaaDoor

namespace Go.Proofs.YtficlakgameglaaDoor

open Go.RowKit

set_option linter.unusedVariables false

set_option linter.unusedSimpArgs false

set_option maxRecDepth 20000

attribute [local go_sem ↓] lvState_eq svState_eq bdState_eq lvValidator_eq svValidator_eq

def epB (n : Int) : Bool := decide (n = 18446744073709551615) || decide (n < 2199023255552)

set_option maxHeartbeats 1000000 in
theorem ep_any (n : Int) (w : World) :
    Calls Tryd.prog 55 #[.int .u64 n] w fun e w' => e = .returned (.bool (epB n)) ∧ w' = w := by
  by_cases h : n = 18446744073709551615
  · have hb : (n == 18446744073709551615) = true := by simp; exact h
    have e : epB n = true := by unfold epB; simp [h]
    have E := hid e
    clear h e
    go_enter Tryd.func55, Tryd.ntmps55
    go_wp2
    go_ret
    exact ⟨by rw [E.out]; rfl, rfl⟩
  · have hb : (n == 18446744073709551615) = false := by simp; exact h
    have e : epB n = decide (n < 2199023255552) := by unfold epB; simp [h]
    have E := hid e
    clear h e
    go_enter Tryd.func55, Tryd.ntmps55
    go_wp2
    go_ret
    exact ⟨by rw [E.out]; rfl, rfl⟩

/-- The sum of numbers. -/
def sumZ (z : Nat → Int) : Nat → Int
  | 0 => 0
  | k + 1 => sumZ z k + z k

theorem sumZ_pos {z : Nat → Int} {n : Nat} (h : ∀ j, j < n → 0 ≤ z j) : ∀ k, k ≤ n → 0 ≤ sumZ z k
  | 0, _ => Int.le_refl 0
  | k + 1, hk => Int.add_nonneg (sumZ_pos h k (by omega)) (h k (by omega))

theorem sumZ_mono {z : Nat → Int} {n : Nat} (h : ∀ j, j < n → 0 ≤ z j) (k : Nat) (hk : k ≤ n) : ∀ d, k + d ≤ n → sumZ z k ≤ sumZ z (k + d)
  | 0, _ => Int.le_refl _
  | d + 1, hd => Int.le_trans (sumZ_mono h k hk d (by omega)) (by
    show sumZ z (k + d) ≤ sumZ z (k + d) + z (k + d)
    have := h (k + d) (by omega)
    omega)

def togB (z : Nat → Int) (n : Nat) (most : Int) : Bool := decide (sumZ z n ≤ most)

set_option maxHeartbeats 1000000 in
theorem tog_any (z : Nat → Int) (a : Option Addr) (n c : Nat) (most : Int) (w : World) (hn : Z.Nms .u64 w a n z) (hz : ∀ j, j < n → 0 ≤ z j ∧ z j < 18446744073709551616) (h0 : 0 ≤ most) (h1 : most < 18446744073709551616) (hnb : n ≤ 9223372036854775807) :
    Calls Tryd.prog 26 #[.slice a n c, .int .u64 most] w fun e w' => e = .returned (.bool (togB z n most)) ∧ w' = w := by
  have HN := hid hn
  have HZ := hid hz
  clear hn hz
  go_enter Tryd.func26, Tryd.ntmps26
  go_wp2
  go_loop [5, 11] (fun l i => ∃ (k : Nat) (L : Int), k ≤ n ∧ i = .int .i64 k ∧ l = .int .u64 L ∧ 0 ≤ L ∧ L = most - sumZ z k) (fun _ i => n - (intOf i).toNat)
  case atStart => exact ⟨0, most, by omega, rfl, rfl, h0, by simp [sumZ]⟩
  case round =>
    obtain ⟨k, L, hk, rfl, rfl, hL, eL⟩ := hrel
    have EL := hid eL
    clear eL
    have hp := sumZ_pos (fun j hj => (HZ.out j hj).1) k hk
    have hL1 : L < 18446744073709551616 := by have := EL.out; omega
    clear hp
    by_cases hlt : k < n
    · have b1 : decide (k < n) = true := by simp; omega
      have k1 : (k : Int) < (n : Int) := by omega
      have k2 : (0 : Int) ≤ (k : Int) := by omega
      rcases HN.out with h | ⟨b, off, rfl, hb1, hc⟩
      · omega
      have ck := hc k hlt
      have hzk := HZ.out k hlt
      have hs : Hid (sumZ z (k + 1) = sumZ z k + z k) := rfl
      obtain ⟨Z, eZ⟩ : ∃ Z, z k = Z := ⟨_, rfl⟩
      rw [eZ] at ck hzk hs
      obtain ⟨hz0, hz1⟩ := hzk
      clear hc eZ
      by_cases hle : Z ≤ L
      · have hng : ¬ L < Z := by omega
        go_wp2
        go_round
        case rel => exact ⟨k + 1, L - Z, by omega, by go_num, rfl, by omega, by rw [hs.out, EL.out]; omega⟩
        case measure => simp [intOf]; omega
      · have hgt : L < Z := by omega
        have F : Hid (togB z n most = false) := by
          have hm := sumZ_mono (fun j hj => (HZ.out j hj).1) (k + 1) (by omega) (n - (k + 1)) (by omega)
          rw [show k + 1 + (n - (k + 1)) = n by omega, hs.out] at hm
          have e := EL.out
          unfold togB
          exact decide_eq_false (by omega)
        go_wp2
        go_ret
        exact ⟨by rw [F.out]; rfl, rfl⟩
    · have b1 : decide (k < n) = false := by simp; omega
      have k1 : ¬ (k : Int) < (n : Int) := by omega
      have F : Hid (togB z n most = true) := by
        have e := EL.out
        rw [show k = n by omega] at e
        unfold togB
        exact decide_eq_true (by omega)
      go_wp2
      go_ret
      exact ⟨by rw [F.out]; rfl, rfl⟩

def scoB (z : Nat → Int) (n : Nat) : Bool := (List.range n).all fun i => decide (z i ≤ 1099511627776)

theorem scoB_true {z : Nat → Int} {n : Nat} (h : ∀ i, i < n → z i ≤ 1099511627776) : scoB z n = true := by
  unfold scoB
  rw [List.all_eq_true]
  intro i hi
  exact decide_eq_true (h i (List.mem_range.1 hi))

theorem scoB_false {z : Nat → Int} {n i : Nat} (hi : i < n) (h : ¬ z i ≤ 1099511627776) : scoB z n = false := by
  unfold scoB
  rw [List.all_eq_false]
  exact ⟨i, List.mem_range.2 hi, by simpa using h⟩

set_option maxHeartbeats 1000000 in
theorem sco_any (z : Nat → Int) (a : Option Addr) (n c : Nat) (w : World) (hn : Z.Nms .u64 w a n z) (hz : ∀ j, j < n → 0 ≤ z j ∧ z j < 18446744073709551616) (hnb : n ≤ 9223372036854775807) :
    Calls Tryd.prog 25 #[.slice a n c] w fun e w' => e = .returned (.bool (scoB z n)) ∧ w' = w := by
  have HN := hid hn
  have HZ := hid hz
  clear hn hz
  go_enter Tryd.func25, Tryd.ntmps25
  go_wp2
  go_loop [7] (fun i => ∃ (k : Nat), k ≤ n ∧ i = .int .i64 k ∧ ∀ j, j < k → z j ≤ 1099511627776) (fun i => n - (intOf i).toNat)
  case atStart => exact ⟨0, by omega, rfl, fun j hj => by omega⟩
  case round =>
    obtain ⟨k, hk, rfl, hL⟩ := hrel
    have HL := hid hL
    clear hL
    by_cases hlt : k < n
    · have b1 : decide (k < n) = true := by simp; omega
      have k1 : (k : Int) < (n : Int) := by omega
      have k2 : (0 : Int) ≤ (k : Int) := by omega
      rcases HN.out with h | ⟨b, off, rfl, hb1, hc⟩
      · omega
      have ck := hc k hlt
      by_cases hle : z k ≤ 1099511627776
      · have HE := hid hle
        have hng : ¬ 1099511627776 < z k := by omega
        clear hle
        go_wp2
        go_round
        case rel => exact ⟨k + 1, by omega, by go_num, fun j hj => by
          by_cases e : j = k
          · rw [e]; exact HE.out
          · exact HL.out j (by omega)⟩
        case measure => simp [intOf]; omega
      · have hgt : 1099511627776 < z k := by omega
        have F : Hid (scoB z n = false) := scoB_false hlt hle
        clear hle
        go_wp2
        go_ret
        exact ⟨by rw [F.out]; rfl, rfl⟩
    · have b1 : decide (k < n) = false := by simp; omega
      have k1 : ¬ (k : Int) < (n : Int) := by omega
      have F : Hid (scoB z n = true) := scoB_true fun i hi => HL.out i (by omega)
      go_wp2
      go_ret
      exact ⟨by rw [F.out]; rfl, rfl⟩

end Go.Proofs.YtficlakgameglaaDoor
