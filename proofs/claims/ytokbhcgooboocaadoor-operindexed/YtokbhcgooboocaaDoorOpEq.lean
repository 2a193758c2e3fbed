/-
  What ReadIndexed answers.
-/
import Derived.Test.YtokbhcgooboocaaDoorOpDq
namespace Go.Proofs.YtokbhcgooboocaaDoor
open Go.RowKit
set_option linter.unusedVariables false
set_option linter.unusedSimpArgs false
set_option maxRecDepth 20000

attribute [local go_sem ↓] ixP_eq lvData_eq svData_eq lvIndexed_eq svIndexed_eq bdIndexed_eq

set_option maxRecDepth 20000 in
set_option maxHeartbeats 2000000 in
theorem readIndexed_no (m : Nat → Int) (ao : Option Addr) (len cap : Nat) (w : World) (hb : Bys w ao len cap m) (hm : ∀ j, 0 ≤ m j ∧ m j < 256) (hlc : len ≤ cap) (hcap : cap ≤ 9223372036854775807) (hlen : len ≤ 140737488351232) (hE : cI m len ≠ 0) :
    Calls Tryd.prog 11 #[.slice ao len cap] w fun e w' => e = .returned (.tuple #[.agg (cel (sIndexed oIndexed)), .int .i64 (cI m len)]) ∧ Below w.heap.size w w' := by
  have z := zeroIndexed
  obtain ⟨W1, hW1⟩ : ∃ W, w.alloc (.cells (cel (sIndexed oIndexed)) 33) = W := ⟨_, rfl⟩
  obtain ⟨W2, hW2⟩ : ∃ W, W1.alloc (.cells (vs .i64 3 zI) 3) = W := ⟨_, rfl⟩
  have hB1 : Below w.heap.size w W1 := by rw [← hW1]; exact (Below.refl _ _).alloc (Nat.le_refl _) _
  have z1 : W1.heap.size = w.heap.size + 1 := by rw [← hW1]; simp
  have z2 : W2.heap.size = w.heap.size + 2 := by rw [← hW2]; simp [z1]
  have hB2 : Below w.heap.size w W2 := by rw [← hW2]; exact hB1.alloc (by omega) _
  have r1 : W1.heap[w.heap.size]? = some (.cells (cel (sIndexed oIndexed)) 33) := by rw [← hW1]; exact heap_new rfl
  have r2 : W2.heap[w.heap.size]? = some (.cells (cel (sIndexed oIndexed)) 33) := by rw [← hW2]; exact (heap_old (by omega)).trans r1
  have g2 : W2.heap[W1.heap.size]? = some (.cells (vs .i64 3 zI) 3) := by rw [← hW2]; exact heap_new rfl
  have hsz : Calls Tryd.prog 28 #[] W1 fun e w' => e = .returned (.slice (some ⟨W1.heap.size, 0, none⟩) 3 3) ∧ w' = W2 := by rw [← hW2]; exact asz_any W1
  have hcut := cutI_no m ao len cap W1.heap.size W2 (hb.below hB2) hm hlen hlc hcap g2 hE
  obtain ⟨y, ey⟩ : ∃ y, w.heap.size = y := ⟨_, rfl⟩
  obtain ⟨y1, ey1⟩ : ∃ y, W1.heap.size = y := ⟨_, rfl⟩
  rw [ey1] at hcut hsz
  have hy : y < W2.heap.size := by omega
  rw [ey] at r2
  have HCUT := hid hcut
  have HSZ := hid hsz
  have R2 := hid r2
  have HB2 := hid hB2
  have HY := hid hy
  have EY := hid ey
  clear hcut hsz r2 hB2 hy r1 g2 hB1 z1 z2 hlc hcap hb hlen
  go_enter Tryd.func11, Tryd.ntmps11
  obtain ⟨E, eE⟩ : ∃ E, cI m len = E := ⟨_, rfl⟩
  rw [eE] at HCUT hE ⊢
  have q0 : (E != 0) = true := by rw [bne_iff_ne]; exact hE
  clear eE hE
  go_upto_region 2 with (first
    | (go_at_call 28; refine HSZ.out.mono ?_; rintro e w0 ⟨rfl, hw0⟩; obtain rfl := hw0.symm)
    | (go_at_call 40; refine HCUT.out.mono ?_; rintro e w1 ⟨a1, rfl, hb1⟩))
  clear hW1 hW2 ey ey1
  have rr := (hb1.block _ HY.out).trans R2.out
  have sv := svIndexed_run rr oIndexed
  have bd := bdIndexed_0
  have RR := hid rr
  have HB1 := hid hb1
  clear rr hb1
  go_wp2
  refine retIndexed _ _ y oIndexed 33 _ rfl rfl rfl rfl (setRow_at RR.out) ⟨rfl, ?_⟩
  have e0 := EY.out
  have e1 := HB2.out.size
  exact below_row (HB2.out.trans (HB1.out.mono (by omega))) (by omega) _

set_option maxRecDepth 20000 in
set_option maxHeartbeats 2000000 in
theorem readIndexed_bad (m : Nat → Int) (ao : Option Addr) (len cap : Nat) (w : World) (hb : Bys w ao len cap m) (hm : ∀ j, 0 ≤ m j ∧ m j < 256) (hlc : len ≤ cap) (hcap : cap ≤ 9223372036854775807) (hlen : len ≤ 140737488351232) (h228 : 228 ≤ len) (hoff : oN m = 228) (E : Int) (hE : E ≠ 0) (hrn : ∀ (X : World) A, Calls Tryd.prog 41 #[.slice A (len - 228) (len - 228), .int .i64 64] X fun e w' => e = .returned (.tuple #[.slice none 0 0, .int .i64 E]) ∧ w' = X) :
    Calls Tryd.prog 11 #[.slice ao len cap] w fun e w' => e = .returned (.tuple #[.agg (cel (sIndexed oIndexed)), .int .i64 E]) ∧ Below w.heap.size w w' := by
  have z := zeroIndexed
  obtain ⟨W1, hW1⟩ : ∃ W, w.alloc (.cells (cel (sIndexed oIndexed)) 33) = W := ⟨_, rfl⟩
  obtain ⟨W2, hW2⟩ : ∃ W, W1.alloc (.cells (vs .i64 3 zI) 3) = W := ⟨_, rfl⟩
  have hB1 : Below w.heap.size w W1 := by rw [← hW1]; exact (Below.refl _ _).alloc (Nat.le_refl _) _
  have z1 : W1.heap.size = w.heap.size + 1 := by rw [← hW1]; simp
  have z2 : W2.heap.size = w.heap.size + 2 := by rw [← hW2]; simp [z1]
  have hB2 : Below w.heap.size w W2 := by rw [← hW2]; exact hB1.alloc (by omega) _
  have r1 : W1.heap[w.heap.size]? = some (.cells (cel (sIndexed oIndexed)) 33) := by rw [← hW1]; exact heap_new rfl
  have r2 : W2.heap[w.heap.size]? = some (.cells (cel (sIndexed oIndexed)) 33) := by rw [← hW2]; exact (heap_old (by omega)).trans r1
  have g2 : W2.heap[W1.heap.size]? = some (.cells (vs .i64 3 zI) 3) := by rw [← hW2]; exact heap_new rfl
  have hsz : Calls Tryd.prog 28 #[] W1 fun e w' => e = .returned (.slice (some ⟨W1.heap.size, 0, none⟩) 3 3) ∧ w' = W2 := by rw [← hW2]; exact asz_any W1
  have hcut := cutI_ok m ao len cap W1.heap.size W2 (hb.below hB2) hm hlen hlc hcap g2 h228 hoff
  obtain ⟨y, ey⟩ : ∃ y, w.heap.size = y := ⟨_, rfl⟩
  obtain ⟨y1, ey1⟩ : ∃ y, W1.heap.size = y := ⟨_, rfl⟩
  rw [ey1] at hcut hsz
  have hy : y < W2.heap.size := by omega
  rw [ey] at r2
  have HCUT := hid hcut
  have HSZ := hid hsz
  have R2 := hid r2
  have HB2 := hid hB2
  have HY := hid hy
  have EY := hid ey
  clear hcut hsz r2 hB2 hy r1 g2 hB1 z1 z2 hlc hcap hb hlen h228 hoff
  go_enter Tryd.func11, Tryd.ntmps11
  have e0 : (E != 0) = true := by rw [bne_iff_ne]; exact hE
  have HRN := hid hrn
  clear hE hrn
  go_upto_region 2 with (first
    | (go_at_call 28; refine HSZ.out.mono ?_; rintro e w0 ⟨rfl, hw0⟩; obtain rfl := hw0.symm)
    | (go_at_call 40; refine HCUT.out.mono ?_; rintro e w1 ⟨gp, o, rfl, hgp, ⟨⟨A0, l0, q0⟩, ⟨A1, l1, q1⟩, ⟨A2, l2, q2⟩⟩, hb1⟩))
  clear hW1 hW2 ey ey1
  have ix0 : ∀ X : World, (ixP (.slice (some ⟨gp, o, none⟩) 3 3) (.int .i64 0)).run Tryd.prog X = .ok (.pointer (some ⟨gp, o, none⟩)) X := fun X => ixP_run X gp o 3 3 0 (by omega)
  obtain ⟨L0, eL0⟩ : ∃ L, len - 228 = L := ⟨_, rfl⟩
  rw [eL0] at l0 HRN
  have rr := (hb1.block _ HY.out).trans R2.out
  have sv := svIndexed_run rr oIndexed
  have bd := bdIndexed_0
  have RR := hid rr
  have HB1 := hid hb1
  clear rr hb1 eL0 q0 q1 q2 l1 l2
  go_wp2_with (go_at_call 41; refine (HRN.out _ _).mono ?_; rintro e w2 ⟨rfl, hw2⟩; obtain rfl := hw2.symm)
  refine retIndexed _ _ y oIndexed 33 _ rfl rfl rfl rfl (setRow_at RR.out) ⟨rfl, ?_⟩
  have e0 := EY.out
  have e1 := HB2.out.size
  exact below_row (HB2.out.trans (HB1.out.mono (by omega))) (by omega) _

end Go.Proofs.YtokbhcgooboocaaDoor
