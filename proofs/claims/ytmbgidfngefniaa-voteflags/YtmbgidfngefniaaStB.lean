/-
  Whether a state is right.
-/

import Derived.Test.YtmbgidfngefniaaStA
namespace Go.Proofs.Ytmbgidfngefniaa

open Go.RowKit

set_option linter.unusedVariables false

set_option linter.unusedSimpArgs false

set_option maxRecDepth 20000

attribute [local go_sem ↓] lvState_eq svState_eq bdState_eq lvValidator_eq svValidator_eq

def fitB (x : VState) : Bool := decide ((x.f7.n : Int) ≤ 1024) && decide ((x.f9.n : Int) ≤ 8) && decide ((x.f11.n : Int) ≤ 65536) && decide ((x.f12.n : Int) ≤ 65536) && decide ((x.f15.n : Int) ≤ 65536) && decide ((x.f16.n : Int) ≤ 65536) && decide ((x.f21.n : Int) ≤ 65536)

set_option maxHeartbeats 1000000 in
theorem fit_any (x : VState) (w : World) :
    Calls Try.prog 17 #[.agg (cel (sState x))] w fun e w' => e = .returned (.bool (fitB x)) ∧ Below w.heap.size w w' := by
  obtain ⟨W0, hW0⟩ : ∃ W, w.alloc (.cells (cel (sState x)) 49) = W := ⟨_, rfl⟩
  have hB0 : Below w.heap.size w W0 := by rw [← hW0]; exact (Below.refl _ _).alloc (Nat.le_refl _) _
  have r0 : W0.heap[w.heap.size]? = some (.cells (cel (sState x)) 49) := by rw [← hW0]; exact heap_new rfl
  have z0 : w.heap.size < W0.heap.size := by rw [← hW0]; simp
  obtain ⟨y, ey⟩ : ∃ y, w.heap.size = y := ⟨_, rfl⟩
  have l7 : W0.cell? ⟨y, 653, none⟩ = some (.slice x.f7.a x.f7.n x.f7.c) := by rw [← ey]; exact cS7 r0
  have l9 : W0.cell? ⟨y, 719, none⟩ = some (.slice x.f9.a x.f9.n x.f9.c) := by rw [← ey]; exact cS9 r0
  have l11 : W0.cell? ⟨y, 721, none⟩ = some (.slice x.f11.a x.f11.n x.f11.c) := by rw [← ey]; exact cS11 r0
  have l12 : W0.cell? ⟨y, 722, none⟩ = some (.slice x.f12.a x.f12.n x.f12.c) := by rw [← ey]; exact cS12 r0
  have l15 : W0.cell? ⟨y, 987, none⟩ = some (.slice x.f15.a x.f15.n x.f15.c) := by rw [← ey]; exact cS15 r0
  have l16 : W0.cell? ⟨y, 988, none⟩ = some (.slice x.f16.a x.f16.n x.f16.c) := by rw [← ey]; exact cS16 r0
  have l21 : W0.cell? ⟨y, 1092, none⟩ = some (.slice x.f21.a x.f21.n x.f21.c) := by rw [← ey]; exact cS21 r0
  have HB0w := hid hB0
  clear hB0 r0
  by_cases h0 : (x.f7.n : Int) ≤ 1024
  · skip
    by_cases h1 : (x.f9.n : Int) ≤ 8
    · skip
      by_cases h2 : (x.f11.n : Int) ≤ 65536
      · skip
        by_cases h3 : (x.f12.n : Int) ≤ 65536
        · skip
          by_cases h4 : (x.f15.n : Int) ≤ 65536
          · skip
            by_cases h5 : (x.f16.n : Int) ≤ 65536
            · skip
              by_cases h6 : (x.f21.n : Int) ≤ 65536
              · skip
                have FB := hid (show fitB x = true from by unfold fitB; rw [decide_eq_true h0, decide_eq_true h1, decide_eq_true h2, decide_eq_true h3, decide_eq_true h4, decide_eq_true h5, decide_eq_true h6]; simp only [Bool.and_false, Bool.false_and, Bool.true_and, Bool.and_true])
                go_enter Try.func17, Try.ntmps17
                go_upto_region 1 with fail
                clear hW0 ey z0
                go_wp2
                go_ret
                exact ⟨by rw [FB.out]; rfl, HB0w.out⟩
              · skip
                have FB := hid (show fitB x = false from by unfold fitB; rw [decide_eq_true h0, decide_eq_true h1, decide_eq_true h2, decide_eq_true h3, decide_eq_true h4, decide_eq_true h5, decide_eq_false h6]; simp only [Bool.and_false, Bool.false_and, Bool.true_and, Bool.and_true])
                go_enter Try.func17, Try.ntmps17
                go_upto_region 1 with fail
                clear hW0 ey z0
                go_wp2
                go_ret
                exact ⟨by rw [FB.out]; rfl, HB0w.out⟩
            · skip
              have FB := hid (show fitB x = false from by unfold fitB; rw [decide_eq_true h0, decide_eq_true h1, decide_eq_true h2, decide_eq_true h3, decide_eq_true h4, decide_eq_false h5]; simp only [Bool.and_false, Bool.false_and, Bool.true_and, Bool.and_true])
              go_enter Try.func17, Try.ntmps17
              go_upto_region 1 with fail
              clear hW0 ey z0
              go_wp2
              go_ret
              exact ⟨by rw [FB.out]; rfl, HB0w.out⟩
          · skip
            have FB := hid (show fitB x = false from by unfold fitB; rw [decide_eq_true h0, decide_eq_true h1, decide_eq_true h2, decide_eq_true h3, decide_eq_false h4]; simp only [Bool.and_false, Bool.false_and, Bool.true_and, Bool.and_true])
            go_enter Try.func17, Try.ntmps17
            go_upto_region 1 with fail
            clear hW0 ey z0
            go_wp2
            go_ret
            exact ⟨by rw [FB.out]; rfl, HB0w.out⟩
        · skip
          have FB := hid (show fitB x = false from by unfold fitB; rw [decide_eq_true h0, decide_eq_true h1, decide_eq_true h2, decide_eq_false h3]; simp only [Bool.and_false, Bool.false_and, Bool.true_and, Bool.and_true])
          go_enter Try.func17, Try.ntmps17
          go_upto_region 1 with fail
          clear hW0 ey z0
          go_wp2
          go_ret
          exact ⟨by rw [FB.out]; rfl, HB0w.out⟩
      · skip
        have FB := hid (show fitB x = false from by unfold fitB; rw [decide_eq_true h0, decide_eq_true h1, decide_eq_false h2]; simp only [Bool.and_false, Bool.false_and, Bool.true_and, Bool.and_true])
        go_enter Try.func17, Try.ntmps17
        go_upto_region 1 with fail
        clear hW0 ey z0
        go_wp2
        go_ret
        exact ⟨by rw [FB.out]; rfl, HB0w.out⟩
    · skip
      have FB := hid (show fitB x = false from by unfold fitB; rw [decide_eq_true h0, decide_eq_false h1]; simp only [Bool.and_false, Bool.false_and, Bool.true_and, Bool.and_true])
      go_enter Try.func17, Try.ntmps17
      go_upto_region 1 with fail
      clear hW0 ey z0
      go_wp2
      go_ret
      exact ⟨by rw [FB.out]; rfl, HB0w.out⟩
  · skip
    have FB := hid (show fitB x = false from by unfold fitB; rw [decide_eq_false h0]; simp only [Bool.and_false, Bool.false_and, Bool.true_and, Bool.and_true])
    go_enter Try.func17, Try.ntmps17
    go_upto_region 1 with fail
    clear hW0 ey z0
    go_wp2
    go_ret
    exact ⟨by rw [FB.out]; rfl, HB0w.out⟩

def lensB (x : VState) : Bool := decide ((x.f12.n : Int) = (x.f11.n : Int)) && decide ((x.f15.n : Int) = (x.f11.n : Int)) && decide ((x.f16.n : Int) = (x.f11.n : Int)) && decide ((x.f21.n : Int) = (x.f11.n : Int))

set_option maxHeartbeats 1000000 in
theorem lens_any (x : VState) (w : World) :
    Calls Try.prog 18 #[.agg (cel (sState x))] w fun e w' => e = .returned (.bool (lensB x)) ∧ Below w.heap.size w w' := by
  obtain ⟨W0, hW0⟩ : ∃ W, w.alloc (.cells (cel (sState x)) 49) = W := ⟨_, rfl⟩
  have hB0 : Below w.heap.size w W0 := by rw [← hW0]; exact (Below.refl _ _).alloc (Nat.le_refl _) _
  have r0 : W0.heap[w.heap.size]? = some (.cells (cel (sState x)) 49) := by rw [← hW0]; exact heap_new rfl
  have z0 : w.heap.size < W0.heap.size := by rw [← hW0]; simp
  obtain ⟨y, ey⟩ : ∃ y, w.heap.size = y := ⟨_, rfl⟩
  have l11 : W0.cell? ⟨y, 721, none⟩ = some (.slice x.f11.a x.f11.n x.f11.c) := by rw [← ey]; exact cS11 r0
  have l12 : W0.cell? ⟨y, 722, none⟩ = some (.slice x.f12.a x.f12.n x.f12.c) := by rw [← ey]; exact cS12 r0
  have l15 : W0.cell? ⟨y, 987, none⟩ = some (.slice x.f15.a x.f15.n x.f15.c) := by rw [← ey]; exact cS15 r0
  have l16 : W0.cell? ⟨y, 988, none⟩ = some (.slice x.f16.a x.f16.n x.f16.c) := by rw [← ey]; exact cS16 r0
  have l21 : W0.cell? ⟨y, 1092, none⟩ = some (.slice x.f21.a x.f21.n x.f21.c) := by rw [← ey]; exact cS21 r0
  have HB0w := hid hB0
  clear hB0 r0
  by_cases h0 : (x.f12.n : Int) = (x.f11.n : Int)
  · skip
    by_cases h1 : (x.f15.n : Int) = (x.f11.n : Int)
    · skip
      by_cases h2 : (x.f16.n : Int) = (x.f11.n : Int)
      · skip
        by_cases h3 : (x.f21.n : Int) = (x.f11.n : Int)
        · skip
          have FB := hid (show lensB x = true from by unfold lensB; rw [decide_eq_true h0, decide_eq_true h1, decide_eq_true h2, decide_eq_true h3]; simp only [Bool.and_false, Bool.false_and, Bool.true_and, Bool.and_true])
          go_enter Try.func18, Try.ntmps18
          go_upto_region 1 with fail
          clear hW0 ey z0
          go_wp2
          go_ret
          exact ⟨by rw [FB.out]; rfl, HB0w.out⟩
        · skip
          have nb : ((x.f21.n : Int) == (x.f11.n : Int)) = false := beq_eq_false_iff_ne.2 h3
          have FB := hid (show lensB x = false from by unfold lensB; rw [decide_eq_true h0, decide_eq_true h1, decide_eq_true h2, decide_eq_false h3]; simp only [Bool.and_false, Bool.false_and, Bool.true_and, Bool.and_true])
          go_enter Try.func18, Try.ntmps18
          go_upto_region 1 with fail
          clear hW0 ey z0
          go_wp2
          go_ret
          exact ⟨by rw [FB.out]; rfl, HB0w.out⟩
      · skip
        have nb : ((x.f16.n : Int) == (x.f11.n : Int)) = false := beq_eq_false_iff_ne.2 h2
        have FB := hid (show lensB x = false from by unfold lensB; rw [decide_eq_true h0, decide_eq_true h1, decide_eq_false h2]; simp only [Bool.and_false, Bool.false_and, Bool.true_and, Bool.and_true])
        go_enter Try.func18, Try.ntmps18
        go_upto_region 1 with fail
        clear hW0 ey z0
        go_wp2
        go_ret
        exact ⟨by rw [FB.out]; rfl, HB0w.out⟩
    · skip
      have nb : ((x.f15.n : Int) == (x.f11.n : Int)) = false := beq_eq_false_iff_ne.2 h1
      have FB := hid (show lensB x = false from by unfold lensB; rw [decide_eq_true h0, decide_eq_false h1]; simp only [Bool.and_false, Bool.false_and, Bool.true_and, Bool.and_true])
      go_enter Try.func18, Try.ntmps18
      go_upto_region 1 with fail
      clear hW0 ey z0
      go_wp2
      go_ret
      exact ⟨by rw [FB.out]; rfl, HB0w.out⟩
  · skip
    have nb : ((x.f12.n : Int) == (x.f11.n : Int)) = false := beq_eq_false_iff_ne.2 h0
    have FB := hid (show lensB x = false from by unfold lensB; rw [decide_eq_false h0]; simp only [Bool.and_false, Bool.false_and, Bool.true_and, Bool.and_true])
    go_enter Try.func18, Try.ntmps18
    go_upto_region 1 with fail
    clear hW0 ey z0
    go_wp2
    go_ret
    exact ⟨by rw [FB.out]; rfl, HB0w.out⟩

def timB (x : VState) : Bool := decide (x.f2 < 1099511627776) && decide (x.f4.f0 ≤ x.f2) && decide (x.f18.f0 ≤ x.f2 / 4) && decide (x.f19.f0 ≤ x.f2 / 4) && decide (x.f20.f0 ≤ x.f2 / 4)

set_option maxHeartbeats 1000000 in
theorem tim_any (x : VState) (w : World) (hx : 0 ≤ x.f2 ∧ x.f2 < 18446744073709551616) :
    Calls Try.prog 19 #[.agg (cel (sState x))] w fun e w' => e = .returned (.bool (timB x)) ∧ Below w.heap.size w w' := by
  obtain ⟨W0, hW0⟩ : ∃ W, w.alloc (.cells (cel (sState x)) 49) = W := ⟨_, rfl⟩
  have hB0 : Below w.heap.size w W0 := by rw [← hW0]; exact (Below.refl _ _).alloc (Nat.le_refl _) _
  have r0 : W0.heap[w.heap.size]? = some (.cells (cel (sState x)) 49) := by rw [← hW0]; exact heap_new rfl
  have z0 : w.heap.size < W0.heap.size := by rw [← hW0]; simp
  obtain ⟨y, ey⟩ : ∃ y, w.heap.size = y := ⟨_, rfl⟩
  have l2 : W0.cell? ⟨y, 33, none⟩ = some (.int .u64 x.f2) := by rw [← ey]; exact cS2 r0
  have l4 : W0.cell? ⟨y, 43, none⟩ = some (.int .u64 x.f4.f0) := by rw [← ey]; exact cS4 r0
  have l18 : W0.cell? ⟨y, 993, none⟩ = some (.int .u64 x.f18.f0) := by rw [← ey]; exact cS18 r0
  have l19 : W0.cell? ⟨y, 1026, none⟩ = some (.int .u64 x.f19.f0) := by rw [← ey]; exact cS19 r0
  have l20 : W0.cell? ⟨y, 1059, none⟩ = some (.int .u64 x.f20.f0) := by rw [← ey]; exact cS20 r0
  have HB0w := hid hB0
  obtain ⟨hx0, hx1⟩ := hx
  clear hB0 r0
  by_cases h0 : x.f2 < 1099511627776
  · skip
    by_cases h1 : x.f4.f0 ≤ x.f2
    · skip
      by_cases h2 : x.f18.f0 ≤ x.f2 / 4
      · skip
        by_cases h3 : x.f19.f0 ≤ x.f2 / 4
        · skip
          by_cases h4 : x.f20.f0 ≤ x.f2 / 4
          · skip
            have FB := hid (show timB x = true from by unfold timB; rw [decide_eq_true h0, decide_eq_true h1, decide_eq_true h2, decide_eq_true h3, decide_eq_true h4]; simp only [Bool.and_false, Bool.false_and, Bool.true_and, Bool.and_true])
            go_enter Try.func19, Try.ntmps19
            go_upto_region 1 with fail
            clear hW0 ey z0
            go_wp2
            go_ret
            exact ⟨by rw [FB.out]; rfl, HB0w.out⟩
          · skip
            have FB := hid (show timB x = false from by unfold timB; rw [decide_eq_true h0, decide_eq_true h1, decide_eq_true h2, decide_eq_true h3, decide_eq_false h4]; simp only [Bool.and_false, Bool.false_and, Bool.true_and, Bool.and_true])
            go_enter Try.func19, Try.ntmps19
            go_upto_region 1 with fail
            clear hW0 ey z0
            go_wp2
            go_ret
            exact ⟨by rw [FB.out]; rfl, HB0w.out⟩
        · skip
          have FB := hid (show timB x = false from by unfold timB; rw [decide_eq_true h0, decide_eq_true h1, decide_eq_true h2, decide_eq_false h3]; simp only [Bool.and_false, Bool.false_and, Bool.true_and, Bool.and_true])
          go_enter Try.func19, Try.ntmps19
          go_upto_region 1 with fail
          clear hW0 ey z0
          go_wp2
          go_ret
          exact ⟨by rw [FB.out]; rfl, HB0w.out⟩
      · skip
        have FB := hid (show timB x = false from by unfold timB; rw [decide_eq_true h0, decide_eq_true h1, decide_eq_false h2]; simp only [Bool.and_false, Bool.false_and, Bool.true_and, Bool.and_true])
        go_enter Try.func19, Try.ntmps19
        go_upto_region 1 with fail
        clear hW0 ey z0
        go_wp2
        go_ret
        exact ⟨by rw [FB.out]; rfl, HB0w.out⟩
    · skip
      have FB := hid (show timB x = false from by unfold timB; rw [decide_eq_true h0, decide_eq_false h1]; simp only [Bool.and_false, Bool.false_and, Bool.true_and, Bool.and_true])
      go_enter Try.func19, Try.ntmps19
      go_upto_region 1 with fail
      clear hW0 ey z0
      go_wp2
      go_ret
      exact ⟨by rw [FB.out]; rfl, HB0w.out⟩
  · skip
    have FB := hid (show timB x = false from by unfold timB; rw [decide_eq_false h0]; simp only [Bool.and_false, Bool.false_and, Bool.true_and, Bool.and_true])
    go_enter Try.func19, Try.ntmps19
    go_upto_region 1 with fail
    clear hW0 ey z0
    go_wp2
    go_ret
    exact ⟨by rw [FB.out]; rfl, HB0w.out⟩

end Go.Proofs.Ytmbgidfngefniaa
