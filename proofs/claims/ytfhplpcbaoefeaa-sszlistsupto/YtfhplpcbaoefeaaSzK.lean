/-
  The fixed answers that every statement of layer 3 asks first are right.
-/
import Derived.Test.YtfhplpcbaoefeaaSzJ
namespace Go.Proofs.Ytfhplpcbaoefeaa
open Go.RowKit
set_option linter.unusedVariables false
set_option linter.unusedSimpArgs false

def mC (j : Nat) : Int := [1, 2, 7, 0, 0, 0, 3, 4, 5].getD j 0
def zC (j : Nat) : Int := [2, 0, 1].getD j 0
def mM (j : Nat) : Int := [8, 0, 0, 0, 9, 0, 0, 0, 170, 187].getD j 0
def oM (j : Nat) : Nat := [8, 9].getD j 0
theorem cells9 (w : World) (b : Nat) (t : TypeId) (h : w.heap[b]? = some (.cells #[.int .u8 1, .int .u8 2, .int .u8 7, .int .u8 0, .int .u8 0, .int .u8 0, .int .u8 3, .int .u8 4, .int .u8 5] t)) : ∀ j, j < 9 → w.cell? ⟨b, 0 + j, none⟩ = some (.int .u8 (mC j)) := by
  intro j hj
  rw [Nat.zero_add, row_cell h]
  rcases (by omega : j = 0 ∨ j = 1 ∨ j = 2 ∨ j = 3 ∨ j = 4 ∨ j = 5 ∨ j = 6 ∨ j = 7 ∨ j = 8) with h | h | h | h | h | h | h | h | h <;> subst h <;> rfl
theorem cells3 (w : World) (b : Nat) (t : TypeId) (h : w.heap[b]? = some (.cells #[.int .i64 2, .int .i64 0, .int .i64 1] t)) : ∀ j, j < 3 → w.cell? ⟨b, 0 + j, none⟩ = some (.int .i64 (zC j)) := by
  intro j hj
  rw [Nat.zero_add, row_cell h]
  rcases (by omega : j = 0 ∨ j = 1 ∨ j = 2) with h | h | h <;> subst h <;> rfl
theorem cells10 (w : World) (b : Nat) (t : TypeId) (h : w.heap[b]? = some (.cells #[.int .u8 8, .int .u8 0, .int .u8 0, .int .u8 0, .int .u8 9, .int .u8 0, .int .u8 0, .int .u8 0, .int .u8 170, .int .u8 187] t)) : ∀ j, j < 10 → w.cell? ⟨b, 0 + j, none⟩ = some (.int .u8 (mM j)) := by
  intro j hj
  rw [Nat.zero_add, row_cell h]
  rcases (by omega : j = 0 ∨ j = 1 ∨ j = 2 ∨ j = 3 ∨ j = 4 ∨ j = 5 ∨ j = 6 ∨ j = 7 ∨ j = 8 ∨ j = 9) with h | h | h | h | h | h | h | h | h | h <;> subst h <;> rfl
theorem mC_bd : ∀ j, j < 9 → 0 ≤ mC j ∧ mC j < 256 := by decide
theorem mM_bd : ∀ j, j < 10 → 0 ≤ mM j ∧ mM j < 256 := by decide
theorem str45 : strF (fun j => mC (7 + j)) 2 = ⟨#[4, 5]⟩ := by rfl
theorem str187 : strF (fun j => mM (9 + j)) 1 = ⟨#[187]⟩ := by rfl

theorem cut_awake (w : World) (b c : Nat) (tb tc : TypeId) (hb : w.heap[b]? = some (.cells #[.int .u8 1, .int .u8 2, .int .u8 7, .int .u8 0, .int .u8 0, .int .u8 0, .int .u8 3, .int .u8 4, .int .u8 5] tb)) (hc : w.heap[c]? = some (.cells #[.int .i64 2, .int .i64 0, .int .i64 1] tc)) :
    Calls Try.prog 12 #[.slice (some ⟨b, 0, none⟩) 9 9, .slice (some ⟨c, 0, none⟩) 3 3] w fun e w' => ∃ g gp, e = .returned (.tuple #[.slice (some ⟨gp, 0, none⟩) 3 3, .int .i64 0]) ∧ w'.cell? ⟨gp, 1, none⟩ = some (.slice (some ⟨g, 7, none⟩) 2 2) ∧ gp < w'.heap.size ∧ g < w'.heap.size ∧ (∀ j, j < 2 → w'.cell? ⟨g, 7 + j, none⟩ = some (.int .u8 (mC (7 + j)))) ∧ Below w.heap.size w w' := by
  refine (cut_ok zC mC (some ⟨b, 0, none⟩) 9 9 (some ⟨c, 0, none⟩) 3 3 w (.inr (.inr ⟨b, 0, rfl, by omega, by omega, (Array.getElem?_eq_some_iff.1 hb).1, cells9 w b tb hb⟩)) mC_bd (by omega) (by omega) (by omega)
    (.inr ⟨c, 0, rfl, (Array.getElem?_eq_some_iff.1 hc).1, cells3 w c tc hc⟩) (by decide) (by decide) (by decide) (by decide) (by decide) (fun i hi => by have : zn zC 3 = 1 := rfl; omega)).mono ?_
  rintro e w' ⟨g, C, gp, rfl, h1, h2, h3, h4, h5, h6, h7, h8⟩
  refine ⟨g, gp, rfl, ?_, (Array.getElem?_eq_some_iff.1 h6).1, h4, fun j hj => h3 (7 + j) (by omega), h8⟩
  rw [vals_cell h6 1 (by omega)]
  rfl
theorem oM_up : ∀ i, i + 1 < 2 → oM i ≤ oM (i + 1) := by
  intro i hi
  have e : i = 0 := by omega
  subst e
  decide
theorem many_awake (w : World) (b : Nat) (tb : TypeId) (hb : w.heap[b]? = some (.cells #[.int .u8 8, .int .u8 0, .int .u8 0, .int .u8 0, .int .u8 9, .int .u8 0, .int .u8 0, .int .u8 0, .int .u8 170, .int .u8 187] tb)) :
    Calls Try.prog 8 #[.slice (some ⟨b, 0, none⟩) 10 10, .int .i64 5] w fun e w' => ∃ g gp, e = .returned (.tuple #[.slice (some ⟨gp, 0, none⟩) 2 2, .int .i64 0]) ∧ w'.cell? ⟨gp, 1, none⟩ = some (.slice (some ⟨g, 9, none⟩) 1 1) ∧ gp < w'.heap.size ∧ g < w'.heap.size ∧ (∀ j, j < 1 → w'.cell? ⟨g, 9 + j, none⟩ = some (.int .u8 (mM (9 + j)))) ∧ Below w.heap.size w w' := by
  refine (many_ok mM (some ⟨b, 0, none⟩) 10 10 2 5 w (.inr (.inr ⟨b, 0, rfl, by omega, by omega, (Array.getElem?_eq_some_iff.1 hb).1, cells10 w b tb hb⟩)) mM_bd (by omega) (by omega) (by omega)
    (by omega) (by decide) (by omega) (by omega) (by omega) oM (by decide) (by decide) oM_up).mono ?_
  rintro e w' ⟨g, C, gp, rfl, h1, h2, h3, h4, h5, h6, h7, h8⟩
  refine ⟨g, gp, rfl, ?_, (Array.getElem?_eq_some_iff.1 h6).1, h4, fun j hj => h3 (9 + j) (by omega), h8⟩
  rw [vals_cell h6 1 (by omega)]
  rfl

set_option maxRecDepth 20000 in
set_option maxHeartbeats 1000000 in
theorem awake_any (w : World) :
    Calls Try.prog 4 #[] w fun e w' => e = .returned (.bool true) ∧ Below w.heap.size w w' := by
  obtain ⟨W0, hW0⟩ : ∃ W, (w.alloc (.cells #[.int .u8 1, .int .u8 2, .int .u8 7, .int .u8 0, .int .u8 0, .int .u8 0, .int .u8 3, .int .u8 4, .int .u8 5] 5)).alloc (.cells #[.int .i64 2, .int .i64 0, .int .i64 1] 3) = W := ⟨_, rfl⟩
  have s0 : W0.heap.size = w.heap.size + 1 + 1 := by rw [← hW0]; simp
  have hB0 : Below w.heap.size w W0 := by rw [← hW0]; go_grown
  have r0 : W0.heap[w.heap.size]? = some (.cells #[.int .u8 1, .int .u8 2, .int .u8 7, .int .u8 0, .int .u8 0, .int .u8 0, .int .u8 3, .int .u8 4, .int .u8 5] 5) := by rw [← hW0]; exact (heap_old (by simp)).trans (heap_new rfl)
  have r1 : W0.heap[w.heap.size + 1]? = some (.cells #[.int .i64 2, .int .i64 0, .int .i64 1] 3) := by rw [← hW0]; exact heap_new (by simp)
  have hcut := cut_awake W0 _ _ _ _ r0 r1
  rw [← hW0] at hcut
  have HCUT := hid hcut
  have HB0 : Hid (Below w.heap.size w ((w.alloc (.cells #[.int .u8 1, .int .u8 2, .int .u8 7, .int .u8 0, .int .u8 0, .int .u8 0, .int .u8 3, .int .u8 4, .int .u8 5] 5)).alloc (.cells #[.int .i64 2, .int .i64 0, .int .i64 1] 3))) := by rw [← hW0] at hB0; exact hB0
  clear hW0 s0 hB0 r0 r1 hcut
  go_enter Try.func4, Try.ntmps4
  go_upto_region 2 with (go_at_call 12; refine HCUT.out.mono ?_; rintro e w1 ⟨g, gp, rfl, x1, x2, x3, x4, x5⟩)
  have hB1 : Below w.heap.size w w1 := HB0.out.trans (x5.mono HB0.out.size)
  obtain ⟨W2, hW2⟩ : ∃ W, w1.alloc (.cells #[.int .u8 8, .int .u8 0, .int .u8 0, .int .u8 0, .int .u8 9, .int .u8 0, .int .u8 0, .int .u8 0, .int .u8 170, .int .u8 187] 5) = W := ⟨_, rfl⟩
  have r2 : W2.heap[w1.heap.size]? = some (.cells #[.int .u8 8, .int .u8 0, .int .u8 0, .int .u8 0, .int .u8 9, .int .u8 0, .int .u8 0, .int .u8 0, .int .u8 170, .int .u8 187] 5) := by rw [← hW2]; exact heap_new rfl
  have hB2 : Below w1.heap.size w1 W2 := by rw [← hW2]; exact (Below.refl _ _).alloc (Nat.le_refl _) _
  have hmany := many_awake W2 _ _ r2
  rw [← hW2] at hmany hB2
  have HMANY := hid hmany
  have HB2 := hid hB2
  have HB1 := hid hB1
  have HX := hid (And.intro x1 (And.intro x2 (And.intro x3 x4)))
  clear hB1 hW2 r2 hB2 hmany x1 x2 x3 x4 x5 HCUT HB0
  go_upto_region 3 with (go_at_call 8; refine HMANY.out.mono ?_; rintro e w3 ⟨g2, gp2, rfl, y1, y2, y3, y4, y5⟩)
  obtain ⟨x1, x2, x3, x4⟩ := HX.out
  have hb13 : Below w1.heap.size w1 w3 := HB2.out.trans (y5.mono HB2.out.size)
  have c1 := (below_cell hb13 x2).trans x1
  have z13 := hb13.size
  have v1 := conv_bys w3 (some ⟨g, 7, none⟩) 2 2 (fun j => mC (7 + j)) (.inr (.inr ⟨g, 7, rfl, by omega, by omega, by omega, fun j hj => (below_cell hb13 x3).trans (x4 j hj)⟩))
  have v2 := conv_bys w3 (some ⟨g2, 9, none⟩) 1 1 (fun j => mM (9 + j)) (.inr (.inr ⟨g2, 9, rfl, by omega, by omega, y3, y4⟩))
  rw [str45] at v1
  rw [str187] at v2
  have HF := hid (HB1.out.trans (hb13.mono HB1.out.size))
  clear x1 x2 x3 x4 hb13 z13 y2 y3 y4 y5 HX HB1 HB2 HMANY
  go_wp2
  go_ret
  exact ⟨rfl, HF.out⟩

end Go.Proofs.Ytfhplpcbaoefeaa
