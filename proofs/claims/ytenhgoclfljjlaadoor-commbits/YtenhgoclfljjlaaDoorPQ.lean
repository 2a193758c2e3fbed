/-
  Numbers put in order by slices.Sort: a row of numbers that is worked on, and what cmp.Less answers.
  What insertionSortOrdered and reverseRangeOrdered make of a row.
  What siftDownOrdered and heapSortOrdered make of a row.
-/
import Derived.Test.YtenhgoclfljjlaaDoorHaA
import Derived.BigQuiet

import Derived.CellFam

import Derived.BigCall

import Derived.BigGuard

import Derived.Deep.QuietTactic

import Derived.Deep.LoopGhost

import Derived.Sort.Row

import Derived.Sort.WalkA

import Derived.BigRegion

import Derived.Sort.WalkB3

namespace Go.Proofs.YtenhgoclfljjlaaDoor.Q

open Go.RowKit

set_option linter.unusedVariables false

set_option linter.unusedSimpArgs false

/-- Element t of a row. -/
def el (d : Array Int) (t : Nat) : Int := d[t]!

/-- Less of two numbers. -/
def ls (x y : Int) : Bool := Sort.ltInt x y

/-- The row of block g holds d, and whatever lies below g is as it was. -/
def Sr (w : World) (g off : Nat) (d : Array Int) (wr : World) : Prop := g < wr.heap.size ∧ Sort.Holds (Value.int .u64) wr g off d ∧ Below g w wr

theorem Sr.refl {w : World} {g off : Nat} {d : Array Int} (h : g < w.heap.size) (hh : Sort.Holds (Value.int .u64) w g off d) : Sr w g off d w := ⟨h, hh, Below.refl _ _⟩

theorem Sr.start {w wr : World} {g off : Nat} {d : Array Int} (h : Sr w g off d wr) : Sr wr g off d wr := ⟨h.1, h.2.1, Below.refl _ _⟩

theorem Sr.trans {w w1 w2 : World} {g off : Nat} {d1 d2 : Array Int} (h : Sr w g off d1 w1) (k : Sr w1 g off d2 w2) : Sr w g off d2 w2 := ⟨k.1, k.2.1, h.2.2.trans k.2.2⟩

theorem Sr.drewN {w wr : World} {g off : Nat} {d : Array Int} (h : Sr w g off d wr) (q : Nat) : Sr w g off d (wr.drewN q) :=
  ⟨h.1, Sort.holds_ahead _ wr q g off d h.2.1, ⟨h.2.2.os, h.2.2.tape, h.2.2.output, h.2.2.size, h.2.2.block⟩⟩

theorem Sr.cell {w wr : World} {g off : Nat} {d : Array Int} (h : Sr w g off d wr) {n : Nat} (hn : d.size = n) : ∀ t, t < n → wr.cell? ⟨g, off + t, none⟩ = some (.int .u64 (el d t)) := fun t ht => (h.2.1 t (by omega)).1

theorem Sr.soft {w wr : World} {g off : Nat} {d : Array Int} (h : Sr w g off d wr) {n : Nat} (hn : d.size = n) : ∀ t, t < n → wr.frozen? ⟨g, off + t, none⟩ = false := fun t ht => (h.2.1 t (by omega)).2

/-- Two elements exchanged. -/
theorem Sr.swap {w wr : World} {g off : Nat} {d : Array Int} (h : Sr w g off d wr) {n : Nat} (hn : d.size = n) {i j : Nat} (hi : i < n) (hj : j < n) (q : Nat) {x y : Int} (hx : x = el d j) (hy : y = el d i) :
    Sr w g off (Sort.swp d i j) (((wr.setCell ⟨g, off + i, none⟩ (.int .u64 x)).setCell ⟨g, off + j, none⟩ (.int .u64 y)).drewN q) := by
  subst hx
  subst hy
  have e : (wr.setCell ⟨g, off + i, none⟩ (.int .u64 (el d j))).setCell ⟨g, off + j, none⟩ (.int .u64 (el d i)) = Sort.putRow (Value.int .u64) wr g off (Sort.swp d i j) := by
    have := Sort.putRow_swp (Value.int .u64) wr g off d i j (by omega) (by omega)
    rw [Sort.putRow_self _ _ _ _ _ h.2.1] at this
    exact this
  have k : Sr w g off (Sort.swp d i j) ((wr.setCell ⟨g, off + i, none⟩ (.int .u64 (el d j))).setCell ⟨g, off + j, none⟩ (.int .u64 (el d i))) := by
    refine ⟨?_, ?_, (h.2.2.setCell (Nat.le_refl _) _).setCell (Nat.le_refl _) _⟩
    · rw [e, Sort.size_putRow]; exact h.1
    · rw [e]; exact Sort.holds_putRow _ _ _ _ d _ h.2.1 (by simp [Sort.swp])
  exact k.drewN q

theorem swp_size (d : Array Int) (i j : Nat) : (Sort.swp d i j).size = d.size := by simp [Sort.swp]

/-- What a function that works on a row answers: nothing, and the row. -/
def SrE (w : World) (g off : Nat) (d : Array Int) (e : Ending) (w' : World) : Prop := e = .returned (.tuple #[]) ∧ Sr w g off d w'

theorem isNaN_any (x : Int) (w : World) : Calls Tryd.prog 72 #[.int .u64 x] w fun e w' => e = .returned (.bool false) ∧ w' = w := by
  go_enter Tryd.func72, Tryd.ntmps72
  go_wp2
  go_ret
  exact ⟨by simp, rfl⟩

theorem less_any (x y : Int) (w : World) : Calls Tryd.prog 56 #[.int .u64 x, .int .u64 y] w fun e w' => e = .returned (.bool (ls x y)) ∧ w' = w := by
  go_enter Tryd.func56, Tryd.ntmps56
  go_wp2_with (go_at_call 72; refine (isNaN_any _ _).mono ?_; rintro e w1 ⟨rfl, hw1⟩; subst hw1)
  go_ret
  exact ⟨by unfold ls Sort.ltInt; simp, rfl⟩

end Go.Proofs.YtenhgoclfljjlaaDoor.Q

namespace Go.Proofs.YtenhgoclfljjlaaDoor.Q

open Go.RowKit

set_option linter.unusedVariables false

set_option linter.unusedSimpArgs false

set_option maxRecDepth 1000000

set_option maxHeartbeats 1600000 in
theorem reverse_any (g off n cap a b : Nat) (d : Array Int) (w : World) (hS : Sr w g off d w) (hn : d.size = n) (hab : a ≤ b) (hb : b ≤ n) (hz : n < 4611686018427387904) :
    Calls Tryd.prog 54 #[.slice (some ⟨g, off, none⟩) n cap, .int .i64 a, .int .i64 b] w (SrE w g off (Sort.reverseRange d a b)) := by
  go_enter Tryd.func54, Tryd.ntmps54
  go_wp2
  go_loopg [6, 7] b (fun k s6 s7 wr => ∃ (i : Nat) (z : Int) (dk : Array Int), s6 = .int .i64 i ∧ s7 = .int .i64 z ∧ a ≤ i ∧ -1 ≤ z ∧ z < b ∧ z - i ≤ k ∧ dk.size = n ∧ Sr w g off dk wr ∧ Sort.reverseLoop i z.toNat dk = Sort.reverseRange d a b)
  case atStart => exact ⟨a, (b : Int) - 1, d, rfl, rfl, Nat.le_refl _, by omega, by omega, by omega, hn, hS, by unfold Sort.reverseRange; congr 1; omega⟩
  case round =>
    obtain ⟨i, z, dk, rfl, rfl, h1, h2, h3, hk, hd, hs, heq⟩ := hrel
    rw [Sort.reverseLoop] at heq
    by_cases hlt : (i : Int) < z
    · obtain ⟨j, rfl⟩ : ∃ j : Nat, z = j := ⟨z.toNat, by omega⟩
      rw [if_pos (by omega)] at heq
      have hc := hs.cell hd
      have hf := hs.soft hd
      have HS := hid hs
      have HE := hid heq
      clear hs heq hS
      go_wp2_with fail
      go_region
      go_wp2
      go_roundg (j - 1 - (i + 1))
      case measure => omega
      case rel => exact ⟨i + 1, (j : Int) - 1, Sort.swp dk i j, by simp, rfl, by omega, by omega, by omega, by omega, by rw [swp_size]; exact hd, HS.out.swap hd (by omega) (by omega) 1 rfl rfl, by rw [← HE.out]; congr 1; omega⟩
    · rw [if_neg (by omega)] at heq
      go_wp2
      go_end0
      exact ⟨rfl, heq ▸ hs⟩

set_option maxHeartbeats 1600000 in
theorem insertion_any (g off n cap a b : Nat) (d : Array Int) (w : World) (hS : Sr w g off d w) (hn : d.size = n) (hab : a ≤ b) (hb : b ≤ n) (hz : n < 4611686018427387904) :
    Calls Tryd.prog 50 #[.slice (some ⟨g, off, none⟩) n cap, .int .i64 a, .int .i64 b] w (SrE w g off (Sort.insertionSort Sort.ltInt d a b)) := by
  go_enter Tryd.func50, Tryd.ntmps50
  go_wp2
  go_loopg [6] (b + 1) (fun k s6 wr => ∃ (i : Nat) (dk : Array Int), s6 = .int .i64 i ∧ a < i ∧ i ≤ b + 1 ∧ b + 1 - i ≤ k ∧ dk.size = n ∧ Sr w g off dk wr ∧ Sort.insOuter Sort.ltInt a b i dk = Sort.insertionSort Sort.ltInt d a b)
  case atStart => exact ⟨a + 1, d, by go_num, by omega, by omega, by omega, hn, hS, rfl⟩
  case round =>
    obtain ⟨i, dk, rfl, h1, h2, hk, hd, hs, heq⟩ := hrel
    by_cases hib : i < b
    · rw [insOuter_go _ _ _ _ _ hib] at heq
      have HS := hid hs
      have HE := hid heq
      have hk0 : b - i < gk := by omega
      have HK := hid hk0
      clear hs heq hS hk hk0
      go_wp2
      go_loopg [7] i (fun k s7 wr => ∃ (j : Nat) (dj : Array Int), s7 = .int .i64 j ∧ a ≤ j ∧ j ≤ i ∧ j ≤ k ∧ dj.size = n ∧ Sr w g off dj wr ∧ Sort.insInner Sort.ltInt a j dj = Sort.insInner Sort.ltInt a i dk)
      case atStart => exact ⟨i, dk, rfl, by omega, Nat.le_refl _, Nat.le_refl _, hd, HS.out, rfl⟩
      case round =>
        clear HS
        obtain ⟨j, dj, rfl, h3, h4, hk2, hdj, hs, hin⟩ := hrel
        have hc := hs.cell hdj
        have hf := hs.soft hdj
        have HS := hid hs
        have HI := hid hin
        have out : (j ≤ a ∨ ls (el dj j) (el dj (j - 1)) = false) → ∀ q, ∃ (i' : Nat) (dk' : Array Int), Value.int .i64 ((i : Int) + 1) = .int .i64 (i' : Nat) ∧ a < i' ∧ i' ≤ b + 1 ∧ b + 1 - i' ≤ b - i ∧ dk'.size = n ∧ Sr w g off dk' (wr.drewN q) ∧ Sort.insOuter Sort.ltInt a b i' dk' = Sort.insertionSort Sort.ltInt d a b := fun hh q =>
          ⟨i + 1, dj, by go_num, by omega, by omega, by omega, hdj, HS.out.drewN q, by rw [← HE.out, ← HI.out, insInner_stop Sort.ltInt a j dj hh]⟩
        have OUT := hid out
        clear out hs hin
        go_wp2
        by_cases hja : a < j
        · go_quiet (first | (go_at_call 56; refine Calls.quiet_of_same (less_any _ _ _)))
          go_wp2
          · have hl : ls (el dj j) (el dj (j - 1)) = true := by assumption
            go_region
            all_goals go_wp2
            go_roundg (j - 1)
            case measure => omega
            case rel => exact ⟨j - 1, Sort.swp dj j (j - 1), by congr 1; omega, by omega, by omega, by omega, by rw [swp_size]; exact hdj, HS.out.swap hdj (by omega) (by omega) _ rfl rfl, by rw [← HI.out, insInner_go Sort.ltInt a j dj hja hl]⟩
          · have hl : ls (el dj j) (el dj (j - 1)) = false := by assumption
            go_roundg (b - i)
            case measure => exact HK.out
            case rel => exact OUT.out (.inr hl) nq
        · go_quiet (first | (go_at_call 56; refine Calls.quiet_of_same (less_any _ _ _)))
          go_wp2
          go_roundg (b - i)
          case measure => exact HK.out
          case rel => exact OUT.out (.inl (by omega)) nq
    · rw [insOuter_stop _ _ _ _ _ hib] at heq
      go_wp2
      go_end0
      exact ⟨rfl, heq ▸ hs⟩

end Go.Proofs.YtenhgoclfljjlaaDoor.Q

namespace Go.Proofs.YtenhgoclfljjlaaDoor.Q

open Go.RowKit

set_option linter.unusedVariables false

set_option linter.unusedSimpArgs false

set_option maxRecDepth 1000000

set_option maxHeartbeats 3200000 in
theorem sift_any (g off n cap lo hi first : Nat) (d : Array Int) (w : World) (hS : Sr w g off d w) (hn : d.size = n) (hlo : lo ≤ hi) (hb : first + hi ≤ n) (hz : n < 4611686018427387904) :
    Calls Tryd.prog 67 #[.slice (some ⟨g, off, none⟩) n cap, .int .i64 lo, .int .i64 hi, .int .i64 first] w (SrE w g off (Sort.siftDown Sort.ltInt hi first lo d)) := by
  go_enter Tryd.func67, Tryd.ntmps67
  go_wp2
  go_loopg [8] (hi - lo) (fun k s8 wr => ∃ (root : Nat) (dk : Array Int), s8 = .int .i64 root ∧ root ≤ hi ∧ hi - root ≤ k ∧ dk.size = n ∧ Sr w g off dk wr ∧ Sort.siftDown Sort.ltInt hi first root dk = Sort.siftDown Sort.ltInt hi first lo d)
  case atStart => exact ⟨lo, d, rfl, hlo, Nat.le_refl _, hn, hS, rfl⟩
  case round =>
    obtain ⟨root, dk, rfl, hr, hk, hd, hs, heq⟩ := hrel
    have hc := hs.cell hd
    have hf := hs.soft hd
    have HS := hid hs
    have HE := hid heq
    clear hs heq hS
    by_cases h0 : hi ≤ 2 * root + 1
    · have h0z : (hi : Int) ≤ 2 * (root : Int) + 1 := by omega
      go_wp2
      go_end0
      exact ⟨rfl, by rw [← HE.out, Sort.sd_end Sort.ltInt dk h0]; exact HS.out⟩
    · have h0z : ¬ ((hi : Int) ≤ 2 * (root : Int) + 1) := by omega
      by_cases h1 : 2 * root + 2 < hi
      · have h1z : 2 * (root : Int) + 1 + 1 < (hi : Int) := by omega
        go_wp2_with fail
        go_quiet (first | (go_at_call 56; refine Calls.quiet_of_same (less_any _ _ _)))
        go_wp2_with fail
        · have hL : ls (el dk (first + 2 * root + 1)) (el dk (first + 2 * root + 2)) = true := by assumption
          revert nq
          intro nq1
          have hs2 := HS.out.drewN nq1
          clear hc hf HS
          generalize wr.drewN nq1 = wr2 at hs2 ⊢
          have hc2 := hs2.cell hd
          have hf2 := hs2.soft hd
          have HS2 := hid hs2
          clear hs2
          go_quiet (first | (go_at_call 56; refine Calls.quiet_of_same (less_any _ _ _)))
          go_wp2
          · have hT : ls (el dk (first + root)) (el dk (first + 2 * root + 2)) = false := by
              have : (!ls (el dk (first + root)) (el dk (first + 2 * root + 2))) = true := by assumption
              simpa using this
            (try simp only [Exit.inBlock, Exit.then])
            refine bodyPost_ret (results_none rfl _ _ _) rfl ?_
            exact ⟨rfl, by rw [← HE.out, Sort.sd_right_stop Sort.ltInt dk h1 hL hT]; exact HS2.out.drewN nq⟩
          · have hT : ls (el dk (first + root)) (el dk (first + 2 * root + 2)) = true := by
              have : (!ls (el dk (first + root)) (el dk (first + 2 * root + 2))) = false := by assumption
              simpa using this
            have hs3 := HS2.out.drewN nq
            clear hc2 hf2 HS2
            generalize wr2.drewN nq = wr3 at hs3 ⊢
            have hc3 := hs3.cell hd
            have hf3 := hs3.soft hd
            have HS3 := hid hs3
            clear hs3
            go_region
            go_wp2
            go_roundg (hi - (2 * root + 2))
            case measure => omega
            case rel => exact ⟨2 * root + 2, Sort.swp dk (first + root) (first + (2 * root + 2)), by simp <;> omega, by omega, Nat.le_refl _, by rw [swp_size]; exact hd, HS3.out.swap hd (by omega) (by omega) 1 rfl rfl, by rw [← HE.out, Sort.sd_right_go Sort.ltInt dk h1 hL hT]⟩
        · have hL : ls (el dk (first + 2 * root + 1)) (el dk (first + 2 * root + 2)) = false := by assumption
          revert nq
          intro nq1
          have hs2 := HS.out.drewN nq1
          clear hc hf HS
          generalize wr.drewN nq1 = wr2 at hs2 ⊢
          have hc2 := hs2.cell hd
          have hf2 := hs2.soft hd
          have HS2 := hid hs2
          clear hs2
          go_quiet (first | (go_at_call 56; refine Calls.quiet_of_same (less_any _ _ _)))
          go_wp2
          · have hT : ls (el dk (first + root)) (el dk (first + 2 * root + 1)) = false := by
              have : (!ls (el dk (first + root)) (el dk (first + 2 * root + 1))) = true := by assumption
              simpa using this
            (try simp only [Exit.inBlock, Exit.then])
            refine bodyPost_ret (results_none rfl _ _ _) rfl ?_
            exact ⟨rfl, by rw [← HE.out, Sort.sd_left_stop Sort.ltInt dk (by omega) (fun _ => hL) hT]; exact HS2.out.drewN nq⟩
          · have hT : ls (el dk (first + root)) (el dk (first + 2 * root + 1)) = true := by
              have : (!ls (el dk (first + root)) (el dk (first + 2 * root + 1))) = false := by assumption
              simpa using this
            have hs3 := HS2.out.drewN nq
            clear hc2 hf2 HS2
            generalize wr2.drewN nq = wr3 at hs3 ⊢
            have hc3 := hs3.cell hd
            have hf3 := hs3.soft hd
            have HS3 := hid hs3
            clear hs3
            go_region
            go_wp2
            go_roundg (hi - (2 * root + 1))
            case measure => omega
            case rel => exact ⟨2 * root + 1, Sort.swp dk (first + root) (first + (2 * root + 1)), by simp <;> omega, by omega, Nat.le_refl _, by rw [swp_size]; exact hd, HS3.out.swap hd (by omega) (by omega) 1 rfl rfl, by rw [← HE.out, Sort.sd_left_go Sort.ltInt dk (by omega) (fun _ => hL) hT]⟩
      · have h1z : decide (2 * (root : Int) + 1 + 1 < (hi : Int)) = false := decide_eq_false (by omega)
        go_wp2_with fail
        go_quiet (first | (go_at_call 56; refine Calls.quiet_of_same (less_any _ _ _)))
        go_wp2_with fail
        revert nq
        intro nq1
        have hs2 := HS.out.drewN nq1
        clear hc hf HS
        generalize wr.drewN nq1 = wr2 at hs2 ⊢
        have hc2 := hs2.cell hd
        have hf2 := hs2.soft hd
        have HS2 := hid hs2
        clear hs2
        go_quiet (first | (go_at_call 56; refine Calls.quiet_of_same (less_any _ _ _)))
        go_wp2
        · have hT : ls (el dk (first + root)) (el dk (first + 2 * root + 1)) = false := by
            have : (!ls (el dk (first + root)) (el dk (first + 2 * root + 1))) = true := by assumption
            simpa using this
          (try simp only [Exit.inBlock, Exit.then])
          refine bodyPost_ret (results_none rfl _ _ _) rfl ?_
          exact ⟨rfl, by rw [← HE.out, Sort.sd_left_stop Sort.ltInt dk (by omega) (fun h => absurd h h1) hT]; exact HS2.out.drewN nq⟩
        · have hT : ls (el dk (first + root)) (el dk (first + 2 * root + 1)) = true := by
            have : (!ls (el dk (first + root)) (el dk (first + 2 * root + 1))) = false := by assumption
            simpa using this
          have hs3 := HS2.out.drewN nq
          clear hc2 hf2 HS2
          generalize wr2.drewN nq = wr3 at hs3 ⊢
          have hc3 := hs3.cell hd
          have hf3 := hs3.soft hd
          have HS3 := hid hs3
          clear hs3
          go_region
          go_wp2
          go_roundg (hi - (2 * root + 1))
          case measure => omega
          case rel => exact ⟨2 * root + 1, Sort.swp dk (first + root) (first + (2 * root + 1)), by simp <;> omega, by omega, Nat.le_refl _, by rw [swp_size]; exact hd, HS3.out.swap hd (by omega) (by omega) 1 rfl rfl, by rw [← HE.out, Sort.sd_left_go Sort.ltInt dk (by omega) (fun h => absurd h h1) hT]⟩

theorem sift_size {hi first root : Nat} {d : Array Int} : (Sort.siftDown Sort.ltInt hi first root d).size = d.size := Sort.size_siftDown Sort.ltInt hi first _ root d (Nat.le_refl _)

set_option maxHeartbeats 1600000 in
theorem heap_any (g off n cap a b : Nat) (d : Array Int) (w : World) (hS : Sr w g off d w) (hn : d.size = n) (hab : a ≤ b) (hb : b ≤ n) (hz : n < 4611686018427387904) :
    Calls Tryd.prog 51 #[.slice (some ⟨g, off, none⟩) n cap, .int .i64 a, .int .i64 b] w (SrE w g off (Sort.heapSort Sort.ltInt d a b)) := by
  have hh := half_start hab
  have hsi : ∀ (W : World) (dk : Array Int) (lo hi : Nat), Sr W g off dk W → dk.size = n → lo ≤ hi → a + hi ≤ n → Calls Tryd.prog 67 #[.slice (some ⟨g, off, none⟩) n cap, .int .i64 lo, .int .i64 hi, .int .i64 a] W (SrE W g off (Sort.siftDown Sort.ltInt hi a lo dk)) := fun W dk lo hi h1 h2 h3 h4 => sift_any g off n cap lo hi a dk W h1 h2 h3 h4 hz
  obtain ⟨H, eH⟩ : ∃ H, b - a = H := ⟨_, rfl⟩
  have eHz : (b : Int) - (a : Int) = (H : Int) := by omega
  rw [eHz, eH] at hh
  unfold Sort.heapSort
  rw [eH]
  have hK : (H - 1) / 2 + 1 ≤ H + 1 := by omega
  generalize (H - 1) / 2 + 1 = K0 at hh hK ⊢
  have HSI := hid hsi
  clear hsi
  go_enter Tryd.func51, Tryd.ntmps51
  go_wp2
  go_loopg [9] K0 (fun k s9 wr => ∃ (z : Int) (m : Nat) (dk : Array Int), s9 = .int .i64 z ∧ z + 1 = m ∧ m ≤ k ∧ m ≤ K0 ∧ dk.size = n ∧ Sr w g off dk wr ∧ Sort.heapBuild Sort.ltInt H a m dk = Sort.heapBuild Sort.ltInt H a K0 d)
  case atStart => exact ⟨_, K0, d, rfl, by omega, Nat.le_refl _, Nat.le_refl _, hn, hS, rfl⟩
  case round =>
    clear hh
    obtain ⟨z, m, dk, rfl, hzm, hk, hm, hd, hs, heq⟩ := hrel
    by_cases hz0 : 0 ≤ z
    · obtain ⟨q, rfl⟩ : ∃ q : Nat, z = q := ⟨z.toNat, by omega⟩
      obtain rfl : m = q + 1 := by omega
      have HS := hid hs
      have HE := hid heq
      clear hs heq hS
      go_wp2_with (go_at_call 67; refine (HSI.out _ dk q H HS.out.start hd (by omega) (by omega)).mono ?_; rintro e w1 ⟨rfl, hs1⟩)
      go_roundg q
      case measure => omega
      case rel => exact ⟨_, q, _, rfl, by omega, Nat.le_refl _, by omega, by rw [sift_size]; exact hd, HS.out.trans hs1, HE.out⟩
    · obtain rfl : m = 0 := by omega
      have HS := hid hs
      have e0 : Sort.heapBuild Sort.ltInt H a K0 d = dk := heq.symm
      have E0 := hid e0
      clear hs heq e0 hS
      go_wp2
      go_loopg [10] H (fun k s10 wr => ∃ (z : Int) (m : Nat) (dj : Array Int), s10 = .int .i64 z ∧ z + 1 = m ∧ m ≤ k ∧ m ≤ H ∧ dj.size = n ∧ Sr w g off dj wr ∧ Sort.heapPop Sort.ltInt a m dj = Sort.heapPop Sort.ltInt a H dk)
      case atStart => exact ⟨_, H, dk, rfl, by omega, Nat.le_refl _, Nat.le_refl _, hd, HS.out, rfl⟩
      case round =>
        clear HS hzm hz0 hd
        obtain ⟨z, m, dj, rfl, hzm, hk, hm, hd, hs, heq⟩ := hrel
        by_cases hz0 : 0 ≤ z
        · obtain ⟨q, rfl⟩ : ∃ q : Nat, z = q := ⟨z.toNat, by omega⟩
          obtain rfl : m = q + 1 := by omega
          have hc := hs.cell hd
          have hf := hs.soft hd
          have HE := hid heq
          clear heq
          rcases Nat.eq_zero_or_pos q with rfl | hq
          · skip
            have hs2 := hs.swap hd (i := a) (j := a) (by omega) (by omega) 1 rfl rfl
            have HS2 := hid hs2
            clear hs hs2
            go_wp2_with fail
            go_region
            go_wp2_with (go_at_call 67; refine (HSI.out _ (Sort.swp dj a (a)) 0 0 HS2.out.start (by rw [swp_size]; exact hd) (by omega) (by omega)).mono ?_; rintro e w1 ⟨rfl, hs1⟩)
            go_roundg 0
            case measure => omega
            case rel => exact ⟨_, 0, _, rfl, by omega, Nat.le_refl _, by omega, by rw [sift_size, swp_size]; exact hd, HS2.out.trans hs1, HE.out⟩
          · skip
            have hs2 := hs.swap hd (i := a) (j := a + q) (by omega) (by omega) 1 rfl rfl
            have HS2 := hid hs2
            clear hs hs2
            go_wp2_with fail
            go_region
            go_wp2_with (go_at_call 67; refine (HSI.out _ (Sort.swp dj a (a + q)) 0 q HS2.out.start (by rw [swp_size]; exact hd) (by omega) (by omega)).mono ?_; rintro e w1 ⟨rfl, hs1⟩)
            go_roundg q
            case measure => omega
            case rel => exact ⟨_, q, _, rfl, by omega, Nat.le_refl _, by omega, by rw [sift_size, swp_size]; exact hd, HS2.out.trans hs1, HE.out⟩
        · obtain rfl : m = 0 := by omega
          have HS := hid hs
          have HE := hid heq
          clear hs heq
          go_wp2
          go_end0
          exact ⟨rfl, by rw [E0.out, ← HE.out]; exact HS.out⟩

end Go.Proofs.YtenhgoclfljjlaaDoor.Q
