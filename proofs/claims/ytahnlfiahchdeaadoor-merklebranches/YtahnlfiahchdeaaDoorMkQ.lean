/-
  What the reference's Zero answers.
-/
import Derived.Test.YtahnlfiahchdeaaDoorMkM
import Derived.Test.YtahnlfiahchdeaaDoorMkP
namespace Go.Proofs.YtahnlfiahchdeaaDoor
open Go.RowKit
set_option linter.unusedVariables false
set_option linter.unusedSimpArgs false

attribute [local go_sem ↓] sv24_eq lv24_eq ix22_eq slr_eq lv48_eq sv48_eq bd48_eq bd27_eq bs22_eq sl22_eq mk22_eq eqo_eq

set_option maxRecDepth 20000 in
set_option maxHeartbeats 1000000 in
theorem rzero_any (n : Nat) (hn : n ≤ 1000) : ∀ (w : World), Rc w →
    Calls Tryd.prog 14 #[.int .i64 n] w fun e w' => e = .returned (.agg (vs .u8 32 (zr n))) ∧ Below w.heap.size w w' := by
  induction n with
  | zero =>
    intro w hC
    have z := zero_root
    have b0 := bd27_0
    have sv := sv24_newv w (fun _ => 0) (fun _ => 0)
    clear hC
    rw [show ((0 : Nat) : Int) = 0 from rfl]
    go_enter Tryd.func14, Tryd.ntmps14
    go_wp2
    refine ret24 2 w.heap.size _ 27 rfl rfl rfl (heap_new rfl) ⟨rfl, by go_grown⟩
  | succ n ih =>
    intro w hC
    have z := zero_root
    have bb : (((n + 1 : Nat) : Int) == 0) = false := by simp; omega
    obtain ⟨m, em⟩ : ∃ m : Nat, m = n + 1 := ⟨_, rfl⟩
    rw [← em] at bb ⊢
    have e1 : (m : Int) - 1 = (n : Int) := by omega
    obtain ⟨W0, hW0⟩ : ∃ W, w.alloc (.cells (vs .u8 32 fun _ => 0) 27) = W := ⟨_, rfl⟩
    have hB0 : Below w.heap.size w W0 := by rw [← hW0]; exact (Below.refl _ _).alloc (Nat.le_refl _) _
    have r0 : W0.heap[w.heap.size]? = some (.cells (vs .u8 32 fun _ => 0) 27) := by rw [← hW0]; exact heap_new rfl
    have z0 : W0.heap.size = w.heap.size + 1 := by rw [← hW0]; simp
    have hih := ih (by omega) W0 (hC.below hB0)
    have zz : zr m = tw (zr n) (zr n) := by rw [em]; rfl
    rw [zz]
    have HIH := hid hih
    have HC := hid hC
    have H0 := hid (And.intro hB0 (And.intro r0 z0))
    have HW0 := hid hW0
    obtain ⟨Z, hZ⟩ : ∃ Z, zr n = Z := ⟨_, rfl⟩
    have hzb : ∀ j, j < 32 → 0 ≤ Z j ∧ Z j < 256 := fun j _ => by rw [← hZ]; exact zr_bd n j
    rw [hZ] at HIH ⊢
    have HZB := hid hzb
    have hmm : m ≤ 1000 := by omega
    clear hih hC hB0 r0 z0 hW0 em zz hZ hzb ih
    go_enter Tryd.func14, Tryd.ntmps14
    go_upto_region 3 with fail
    rw [HW0.out]
    have sv := fun W => sv24_newv W (fun _ => 0) Z
    go_upto_region 4 with (go_at_call 14; refine HIH.out.mono ?_; rintro e w1 ⟨rfl, hb1⟩)
    obtain ⟨hB0, r0, z0⟩ := H0.out
    obtain ⟨W2, hW2⟩ : ∃ W, w1.alloc (.cells (vs .u8 32 Z) 27) = W := ⟨_, rfl⟩
    rw [hW2]
    have s1 := hb1.size
    have hB2 : Below W0.heap.size W0 W2 := by rw [← hW2]; exact hb1.alloc s1 _
    have r2 : W2.heap[w1.heap.size]? = some (.cells (vs .u8 32 Z) 27) := by rw [← hW2]; exact heap_new rfl
    have r02 := (hB2.block w.heap.size (by omega)).trans r0
    have hBw : Below w.heap.size w W2 := hB0.trans (hB2.mono (by omega))
    obtain ⟨y, ey⟩ : ∃ y, w1.heap.size = y := ⟨_, rfl⟩
    rw [ey] at r2 ⊢
    have l1 := lv24_run r2
    have ht := rtwo_tw Z Z W2 (HC.out.below hBw) HZB.out HZB.out
    have HT := hid ht
    have HBW := hid hBw
    have R02 := hid r02
    have hz2 : w.heap.size < W2.heap.size := by have := hB2.size; omega
    clear ht hBw r02 r2 hB2 hW2 sv z
    go_wp2_with (go_at_call 32; refine HT.out.mono ?_; rintro e w3 ⟨rfl, hb3⟩; have sv := sv24_run ((hb3.block w.heap.size hz2).trans R02.out) (tw Z Z))
    refine ret24 2 w.heap.size _ 27 rfl rfl rfl (setRow_at ((hb3.block w.heap.size hz2).trans R02.out)) ⟨rfl, below_row (HBW.out.trans (hb3.mono (by omega))) (Nat.le_refl _) _⟩

end Go.Proofs.YtahnlfiahchdeaaDoor
