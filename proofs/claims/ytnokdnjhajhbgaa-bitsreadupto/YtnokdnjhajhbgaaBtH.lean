/-
  The fixed answers that every statement of layer 4 asks first are right.
-/
import Derived.Test.YtnokdnjhajhbgaaBtG
namespace Go.Proofs.Ytnokdnjhajhbgaa
open Go.RowKit
set_option linter.unusedVariables false
set_option linter.unusedSimpArgs false

theorem bys_row {w : World} {g n : Nat} {m : Nat → Int} {t : TypeId} (h : w.heap[g]? = some (.cells (vs .u8 n m) t)) (hn : n ≤ 9223372036854775807) : Bys w (some ⟨g, 0, none⟩) n n m :=
  .inr (.inr ⟨g, 0, rfl, Nat.le_refl _, hn, (Array.getElem?_eq_some_iff.1 h).1, fun j hj => by rw [Nat.zero_add]; exact row_int h j hj⟩)
theorem hsz (w : World) (o : Obj) : (w.alloc o).heap.size = w.heap.size + 1 := by simp
def f3 (j : Nat) : Bool := j == 0 || j == 2
theorem str5 : strF (fun q => (byt f3 3 q : Int)) 1 = ⟨#[5]⟩ := by rfl
theorem str1 : strF (fun q => (byt (ext f3 0) 1 q : Int)) 1 = ⟨#[1]⟩ := by rfl
theorem readl_awake (w : World) (b : Nat) (t : TypeId) (hb : w.heap[b]? = some (.cells #[.int .u8 13] t)) :
    Calls Try.prog 14 #[.slice (some ⟨b, 0, none⟩) 1 1, .int .i64 8] w (Ans (fun _ => 13) 3 0 w) := by
  have h := readl_any (fun _ => 13) (some ⟨b, 0, none⟩) 1 1 8 w (.inr (.inr ⟨b, 0, rfl, by omega, by omega, (Array.getElem?_eq_some_iff.1 hb).1, fun j hj => by
    have e : j = 0 := by omega
    subst e
    exact row_cell hb 0⟩)) (fun q _ => by omega) (by omega)
  exact h
theorem vector_awake (w : World) (b : Nat) (t : TypeId) (hb : w.heap[b]? = some (.cells #[.bool true, .bool false, .bool true] t)) :
    Calls Try.prog 8 #[.slice (some ⟨b, 0, none⟩) 3 3] w fun e w' => e = .returned (.slice (some ⟨w.heap.size, 0, none⟩) 1 1) ∧ (convert 24 9 (.slice (some ⟨w.heap.size, 0, none⟩) 1 1)).run Try.prog w' = .ok (.string ⟨#[5]⟩) w' ∧ Below w.heap.size w w' := by
  refine (vector_any f3 (some ⟨b, 0, none⟩) 3 3 w (.inr (.inr ⟨b, 0, rfl, by omega, by omega, (Array.getElem?_eq_some_iff.1 hb).1, fun j hj => by
    rw [row_cell hb]
    rcases (by omega : j = 0 ∨ j = 1 ∨ j = 2) with h | h | h <;> subst h <;> rfl⟩)) (by omega)).mono ?_
  rintro e w' ⟨rfl, h1, h2, h3⟩
  refine ⟨rfl, ?_, h2⟩
  have := conv_bys w' _ 1 1 _ (bys_row h1 (by omega))
  rw [str5] at this
  exact this
theorem list_awake (w : World) :
    Calls Try.prog 9 #[.slice none 0 0] w fun e w' => e = .returned (.slice (some ⟨w.heap.size, 0, none⟩) 1 1) ∧ (convert 24 9 (.slice (some ⟨w.heap.size, 0, none⟩) 1 1)).run Try.prog w' = .ok (.string ⟨#[1]⟩) w' ∧ Below w.heap.size w w' := by
  refine (list_any f3 none 0 0 w (.inl ⟨rfl, rfl, rfl⟩) (by omega)).mono ?_
  rintro e w' ⟨rfl, h1, h2, h3⟩
  refine ⟨rfl, ?_, h2⟩
  have := conv_bys w' _ 1 1 _ (bys_row h1 (by omega))
  rw [str1] at this
  exact this

set_option maxRecDepth 20000 in
set_option maxHeartbeats 1000000 in
theorem awake_any (w : World) :
    Calls Try.prog 7 #[] w fun e w' => e = .returned (.bool true) ∧ Below w.heap.size w w' := by
  go_enter Try.func7, Try.ntmps7
  go_wp2_with (first
    | (go_at_call 14; refine (readl_awake _ _ _ (heap_new rfl)).mono ?_; rintro e w1 ⟨a1, c1, rfl, y1, y2⟩; obtain ⟨g, off, rfl, hg, hc⟩ := bls_at y1 2 (by omega); have hb1 : Below w.heap.size w w1 := (((Below.refl _ _).alloc (Nat.le_refl _) _).trans (y2.mono (by simp))); have Y := hid (And.intro y1 (And.intro hb1 (And.intro hg hc))); clear y1 y2 hb1 hg hc)
    | (go_at_call 8; refine (vector_awake _ _ _ (heap_new rfl)).mono ?_; rintro e w2 ⟨rfl, v2, hb2⟩; rw [hsz] at v2; have hb12 : Below w1.heap.size w1 w2 := (((Below.refl _ _).alloc (Nat.le_refl _) _).trans (hb2.mono (by simp))); have Z := hid hb12; clear hb2 hb12)
    | (go_at_call 9; refine (list_awake _).mono ?_; rintro e w3 ⟨rfl, v3, hb3⟩; have hb13 : Below w1.heap.size w1 w3 := Z.out.trans (hb3.mono Z.out.size); obtain ⟨y1, hb1, hg, hc⟩ := Y.out; have c2 := (below_cell hb13 hg).trans hc; have HF := hid (hb1.trans (hb13.mono hb1.size)); have HC := hid (count_any _ _ _ _ _ (y1.below hb13) (by omega)); clear hb3 hb13 y1 hb1 hg hc)
    | (go_at_call 13; refine HC.out.mono ?_; rintro e w4 ⟨rfl, rfl⟩))
  go_ret
  exact ⟨rfl, HF.out⟩

end Go.Proofs.Ytnokdnjhajhbgaa
