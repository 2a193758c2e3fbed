/-
  What the statement's own wipe leaves: all below where the parts lie.
-/
import Derived.Test.YtfhplpcbaoefeaaSyL
import Derived.Test.YtfhplpcbaoefeaaSyA
import Derived.ArgAppend
namespace Go.Proofs.Ytfhplpcbaoefeaa
open Go.RowKit
set_option linter.unusedVariables false
set_option linter.unusedSimpArgs false

/-- Parts from the number k on that lie in a row of bytes. -/
def Wp (B : Nat) (w : World) (g gp n len : Nat) (P : Nat → Value) (k : Nat) (wr : World) : Prop :=
  ∃ (P' : Nat → Value) (f : Nat → Int) (cur : Array Value), wr.heap[gp]? = some (.cells (vals n P') 22) ∧ (∀ r, k ≤ r → r < n → P' r = P r) ∧ wr.heap[g]? = some (.cells cur 5) ∧ (∀ j, j < len → cur[j]? = some (.int .u8 (f j))) ∧ Below B w wr
theorem Wp.below {B : Nat} {w : World} {g gp n len : Nat} {P : Nat → Value} {k : Nat} {wr wr' : World} (h : Wp B w g gp n len P k wr) (hB : B ≤ gp) (hb : Below wr.heap.size wr wr') : Wp B w g gp n len P k wr' := by
  obtain ⟨P', f, cur, h1, h2, h3, h4, h5⟩ := h
  have z1 := (Array.getElem?_eq_some_iff.1 h1).1
  have z3 := (Array.getElem?_eq_some_iff.1 h3).1
  exact ⟨P', f, cur, (hb.block _ z1).trans h1, h2, (hb.block _ z3).trans h3, h4, h5.trans (hb.mono (by omega))⟩
theorem Wp.byte {B : Nat} {w : World} {g gp n len : Nat} {P : Nat → Value} {k : Nat} {wr : World} (h : Wp B w g gp n len P k wr) (hne : g ≠ gp) (hB : B ≤ g) (j : Nat) (v : Int) (hj : j < len) : Wp B w g gp n len P k (wr.setCell ⟨g, j, none⟩ (.int .u8 v)) := by
  obtain ⟨P', f, cur, h1, h2, h3, h4, h5⟩ := h
  refine ⟨P', fun i => if i = j then v else f i, cur.setIfInBounds j (.int .u8 v), (heap_set_other (fun e => hne e.symm)).trans h1, h2, row_set h3 j _, fun i hi => ?_, h5.setCell hB _⟩
  have hz : i < cur.size := (Array.getElem?_eq_some_iff.1 (h4 i hi)).1
  rw [Array.getElem?_setIfInBounds]
  dsimp only
  by_cases e : j = i
  · subst e
    rw [if_pos rfl, if_pos hz, if_pos rfl]
  · rw [if_neg e, if_neg (fun e' => e e'.symm)]
    exact h4 i hi
theorem Wp.part {B : Nat} {w : World} {g gp n len : Nat} {P : Nat → Value} {k : Nat} {wr : World} (h : Wp B w g gp n len P k wr) (hne : g ≠ gp) (hB : B ≤ gp) (v : Value) : Wp B w g gp n len P (k + 1) (wr.setCell ⟨gp, k, none⟩ v) := by
  obtain ⟨P', f, cur, h1, h2, h3, h4, h5⟩ := h
  refine ⟨fun i => if i = k then v else P' i, f, cur, ?_, fun r hr hn => ?_, (heap_set_other hne).trans h3, h4, h5.setCell hB _⟩
  · rw [row_set h1 k v, vals_set]
  · dsimp only
    rw [if_neg (by omega)]
    exact h2 r (by omega) hn
theorem Wp.at {B : Nat} {w : World} {g gp n len : Nat} {P : Nat → Value} {k : Nat} {wr : World} (h : Wp B w g gp n len P k wr) (hk : k < n) : wr.cell? ⟨gp, k, none⟩ = some (P k) ∧ wr.frozen? ⟨gp, k, none⟩ = false := by
  obtain ⟨P', f, cur, h1, h2, h3, h4, h5⟩ := h
  exact ⟨by rw [vals_cell h1 k hk, h2 k (Nat.le_refl _) hk], row_frozen h1 k⟩
theorem Wp.cell {B : Nat} {w : World} {g gp n len : Nat} {P : Nat → Value} {k : Nat} {wr : World} (h : Wp B w g gp n len P k wr) : ∃ f : Nat → Int, ∀ j, j < len → wr.cell? ⟨g, j, none⟩ = some (.int .u8 (f j)) ∧ wr.frozen? ⟨g, j, none⟩ = false := by
  obtain ⟨P', f, cur, h1, h2, h3, h4, h5⟩ := h
  exact ⟨f, fun j hj => ⟨by rw [cell_of_row wr g j cur _ (0, 0) h3]; exact h4 j hj, row_frozen h3 j⟩⟩

set_option maxRecDepth 20000 in
set_option maxHeartbeats 2000000 in
theorem wipe_any (B g gp n len : Nat) (P : Nat → Value) (w : World) (h : Wp B w g gp n len P 0 w) (hne : g ≠ gp) (hBg : B ≤ g) (hBp : B ≤ gp) (hlen : len ≤ 140737488351232) (hn : n ≤ 9223372036854775807)
    (hP : ∀ r, r < n → ∃ x L, P r = .slice (some ⟨g, x, none⟩) L L ∧ x + L ≤ len) :
    Calls Try.prog 11 #[.slice (some ⟨gp, 0, none⟩) n n] w fun e w' => e = .returned (.tuple #[]) ∧ Below B w w' := by
  have HP := hid hP
  have HW := hid h
  have HNE := hid hne
  clear hP h hne
  go_enter Try.func11, Try.ntmps11
  go_wp2
  go_loopw [2, 3] (fun i _ wr => ∃ k : Nat, k ≤ n ∧ i = .int .i64 k ∧ Wp B w g gp n len P k wr) (fun i _ _ => n - (intOf i).toNat)
  case atStart => exact ⟨0, by omega, rfl, HW.out⟩
  case round =>
    obtain ⟨k, hk, rfl, hw⟩ := hrel
    by_cases hkn : k < n
    · obtain ⟨x, L, eP, hxl⟩ := HP.out k hkn
      have k1 : (k : Int) < (n : Int) := by omega
      have k2 : (0 : Int) ≤ (k : Int) := by omega
      have HW1 := hid hw
      have EP := hid eP
      clear hw eP
      go_wp2
      go_loopw [3] (fun j wr => ∃ q : Nat, q ≤ L ∧ j = .int .i64 q ∧ Wp B w g gp n len P k wr) (fun j _ => L - (intOf j).toNat)
      case atStart => exact ⟨0, by omega, rfl, HW1.out⟩
      case round =>
        obtain ⟨q, hq, rfl, hw⟩ := hrel
        obtain ⟨cp, fp⟩ := hw.at hkn
        rw [EP.out] at cp
        by_cases hql : q < L
        · obtain ⟨f, hf⟩ := hw.cell
          obtain ⟨cb, fb⟩ := hf (x + q) (by omega)
          have q1 : (q : Int) < (L : Int) := by omega
          have q2 : (0 : Int) ≤ (q : Int) := by omega
          have q3 : (L : Int) ≤ 140737488351232 := by omega
          have HW2 := hid hw
          generalize f (x + q) = c at cb
          clear hw hf
          go_wp2
          go_region_with fail
          all_goals
            go_wp2
            go_roundw
            case rel => exact ⟨q + 1, by omega, by go_num, (HW2.out.byte HNE.out hBg (x + q) _ (by omega)).below hBp (Below.refl _ _).drew⟩
            case measure => simp [intOf]; omega
        · have q1 : ¬ (q : Int) < (L : Int) := by omega
          obtain ⟨f, hf⟩ := hw.cell
          have hgs : g < wr.heap.size := by
            obtain ⟨_, _, _, _, _, h3, _⟩ := hw
            exact (Array.getElem?_eq_some_iff.1 h3).1
          have HOLD : Hid (∀ b : Addr, some (⟨g, x, none⟩ : Addr) = some b → ∀ j u, (bl (fun j => f (x + j)) L)[j]? = some u → (wr.alloc (.cells #[.int .u8 7] 5)).cell? (b.add j) = some u) := by
            intro b e j u hj
            cases e
            obtain ⟨h1, rfl⟩ := bl_get _ _ j u hj
            rw [addr_add]
            exact (below_cell ((Below.refl wr.heap.size wr).alloc (Nat.le_refl _) _) hgs).trans (hf (x + j) (by omega)).1
          have HW2 := hid hw
          clear hw hf
          obtain ⟨i, hi, hz0, hz1, hz2⟩ := info_parts info8
          have HI := hid (And.intro hi (And.intro hz0 (And.intro hz1 hz2)))
          clear hi hz0 hz1 hz2
          go_wp2_with (at_builtin; refine wpList_append_grows _ rfl _ _ 22 rfl 5 i (.int .u8 0) 1 1 Try.underlying22 HI.out.1 HI.out.2.1 HI.out.2.2.1 HI.out.2.2.2 rfl (by decide) (some ⟨g, x, none⟩) L L (bl (fun j => f (x + j)) L) rfl (fun e => by cases e) (by rw [bl_len]; omega) HOLD.out ⟨wr.heap.size, 0, none⟩ 1 1 [.int .u8 7] rfl rfl (cell_one_new _ _ _) (fun u hu => by simp at hu; subst hu; rfl) (by omega) (by unfold maxLen; omega) (by omega) ?_; intro v6 w6 ho6 hg6; obtain ⟨g6, c6, rfl⟩ := owns_pos ho6 (by omega); have HW6 := hid (HW2.out.below hBp ⟨hg6.os, hg6.tape, hg6.output, by have := hg6.size; simp at this; omega, fun k hk => (hg6.block k (by simp; omega) (by simp)).trans (heap_old hk)⟩); obtain ⟨cp6, fp6⟩ := HW6.out.at hkn; rw [EP.out] at cp6; clear ho6 hg6)
          go_roundw
          case rel => exact ⟨k + 1, by omega, by go_num, HW6.out.part HNE.out hBp _⟩
          case measure => simp [intOf]; omega
    · have ek : k = n := by omega
      subst ek
      obtain ⟨P', f, cur, h1, h2, h3, h4, h5⟩ := hw
      have HB := hid h5
      clear h1 h2 h3 h4 h5
      go_wp2
      refine bodyPost_end (results_none rfl _ _ _) rfl ?_
      exact ⟨rfl, HB.out⟩

end Go.Proofs.Ytfhplpcbaoefeaa
