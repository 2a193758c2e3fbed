/-
  What Enc answers.
-/

import Derived.Test.YtehpfemlcjcabaaCoA
import Derived.Test.YtehpfemlcjcabaaCoB
namespace Go.Proofs.Ytehpfemlcjcabaa

open Go.RowKit

set_option linter.unusedVariables false

set_option linter.unusedSimpArgs false

attribute [local go_sem ↓] sv24_eq lv24_eq ix22_eq slr_eq bd27_eq bs22_eq sv8_eq mkI_eq ixI_eq ixP_eq bsP_eq lvCheckpoint_eq lvHeader_eq

set_option maxRecDepth 20000 in
set_option maxHeartbeats 2000000 in
theorem encCheckpoint_any (x : VCheckpoint) (w : World) (hx : OkCheckpoint x) :
    Calls Try.prog 33 #[.agg (cel (sCheckpoint x))] w fun e w' => ∃ v, e = .returned v ∧ w'.ownsRow w.heap.size 5 1 v 40 (bl (ct7 (eCheckpoint x)) 40) ∧ Below w.heap.size w w' := by
  have HX := hid hx
  obtain ⟨W0, hW0⟩ : ∃ W, w.alloc (.cells (cel (sCheckpoint x)) 42) = W := ⟨_, rfl⟩
  have hB0 : Below w.heap.size w W0 := by rw [← hW0]; exact (Below.refl _ _).alloc (Nat.le_refl _) _
  have r0 : W0.heap[w.heap.size]? = some (.cells (cel (sCheckpoint x)) 42) := by rw [← hW0]; exact heap_new rfl
  have z0 : w.heap.size < W0.heap.size := by rw [← hW0]; simp
  obtain ⟨y, ey⟩ : ∃ y, w.heap.size = y := ⟨_, rfl⟩
  have hry : ∀ X, Below W0.heap.size W0 X → X.heap[y]? = some (.cells (cel (sCheckpoint x)) 42) := fun X h => by rw [← ey]; exact (h.block _ z0).trans r0
  have HL0 : Hid (∀ X, Below W0.heap.size W0 X → X.cell? ⟨y, 0, none⟩ = some (.int .u64 x.f0)) := fun X h => seg_nu (hry X h) 0 x.f0 rfl 0 rfl
  have HB1 : Hid (∀ X, Below W0.heap.size W0 X → Bys X (some ⟨y, 1, none⟩) 32 32 x.f1) := fun X h => seg_bys (hry X h) 1 32 x.f1 rfl 1 rfl (by omega)
  have hdr : Below W0.heap.size W0 W0.drew := (Below.refl _ _).drew
  have S0 := hid hdr
  have HB0w := hid hB0
  have EY := hid ey
  clear hdr hB0 r0 hry hx
  go_enter Try.func33, Try.ntmps33
  go_upto_region 1 with fail
  clear hW0 ey z0
  refine wp_region_noPanic ?_
  refine wp_region_held_drew (S := fun X => Below W0.heap.size W0 X) (by kernel_rfl) (S0.out) (fun hHeld => ?_)
  refine tk 0 (v := ?v8) ?y8 hHeld ?r8
  case y8 => intro w hSw; go_simp; try with_reducible rfl
  refine tk 1 (v := ?v9) ?y9 hHeld ?r9
  case y9 => intro w hSw; have ld := HL0.out _ hSw; go_simp; try with_reducible rfl
  refine tk 3 (v := ?v10) ?y10 hHeld ?r10
  case y10 => intro w hSw; go_simp; try with_reducible rfl
  refine tk 4 (v := ?v11) ?y11 hHeld ?r11
  case y11 => intro w hSw; go_simp; try with_reducible rfl
  try simp only [Act.put, List.setIfInBounds_toArray, List.set_cons_zero, List.set_cons_succ, Array.toArray_toList, List.getElem_toArray, List.getElem_cons_zero, List.getElem_cons_succ]
  refine wpAnyH_ready (rs := [2]) (by kernel_rfl) (by simp) ?_
  refine AllReadyH.cons rfl (fun K hK => ?_) AllReadyH.nil
  go_simp
  refine (nbytes_any x.f0 _ HX.out.1.1 HX.out.1.2).mono ?_
  rintro e X1 ⟨g1, rfl, hb1, hg1, hr1⟩
  dsimp only
  have S1 := hid (S0.out.trans (hb1.mono S0.out.size))
  have R0 := hid (show ∀ X, Below X1.heap.size X1 X → Bys X (some ⟨g1, 0, none⟩) 8 8 (nmB x.f0) from fun X h => (bys_new hr1 (by omega)).below h)
  clear hb1 hr1 hg1
  refine hK.out _ _ (S1.out) (fun hHeld => ?_)
  clear hK K
  try simp only [Act.put, List.setIfInBounds_toArray, List.set_cons_zero, List.set_cons_succ, Array.toArray_toList, List.getElem_toArray, List.getElem_cons_zero, List.getElem_cons_succ]
  have bs : (bsP 2 #[(0, Value.slice (some ⟨g1, 0, none⟩) 8 8), (1, Value.slice (some ⟨y, 1, none⟩) 32 32)]).run Try.prog X1 = .ok (.slice (some ⟨X1.heap.size, 0, none⟩) 2 2) (X1.alloc (.cells (([(some ⟨g1, 0, none⟩, 8, 8, nmB x.f0), (some ⟨y, 1, none⟩, 32, 32, x.f1)] : List Pt).map ptv).toArray 39)) := bsP_2 X1 (some ⟨g1, 0, none⟩, 8, 8, nmB x.f0) (some ⟨y, 1, none⟩, 32, 32, x.f1)
  have hBn : Below X1.heap.size X1 (X1.alloc (.cells (([(some ⟨g1, 0, none⟩, 8, 8, nmB x.f0), (some ⟨y, 1, none⟩, 32, 32, x.f1)] : List Pt).map ptv).toArray 39)) := (Below.refl _ _).alloc (Nat.le_refl _) _
  have hla := lay7 ([(some ⟨g1, 0, none⟩, 8, 8, nmB x.f0), (some ⟨y, 1, none⟩, 32, 32, x.f1)] : List Pt) X1.heap.size (X1.alloc (.cells (([(some ⟨g1, 0, none⟩, 8, 8, nmB x.f0), (some ⟨y, 1, none⟩, 32, 32, x.f1)] : List Pt).map ptv).toArray 39)) (heap_new rfl) (fun r hr => by
    have hr' : r < 2 := hr
    rcases (by omega : r = 0 ∨ r = 1) with rfl | rfl
    · exact R0.out _ hBn
    · exact HB1.out _ (S1.out.trans (hBn.mono S1.out.size))
  ) (fun r hr => by
    have hr' : r < 2 := hr
    rcases (by omega : r = 0 ∨ r = 1) with rfl | rfl
    all_goals exact ⟨Nat.le_of_ble_eq_true rfl, Nat.le_of_ble_eq_true rfl⟩) (Nat.le_of_ble_eq_true rfl) (Nat.le_of_ble_eq_true rfl)
  have HLA := hid hla
  have HBN := hid hBn
  clear hla hBn
  refine wpAnyH_ready (rs := [5]) (by kernel_rfl) (by simp) ?_
  refine AllReadyH.cons rfl (fun K hK => ?_) AllReadyH.nil
  go_simp
  refine hK.out _ _ (S1.out.trans (HBN.out.mono S1.out.size)) (fun hHeld => ?_)
  clear hK K bs
  try simp only [Act.put, List.setIfInBounds_toArray, List.set_cons_zero, List.set_cons_succ, Array.toArray_toList, List.getElem_toArray, List.getElem_cons_zero, List.getElem_cons_succ]
  refine wpAnyH_ready (rs := [6]) (by kernel_rfl) (by simp) ?_
  refine AllReadyH.cons rfl (fun K hK => ?_) AllReadyH.nil
  go_simp
  refine (HLA.out).mono ?_
  rintro e Y ⟨v, rfl, ho, hbY⟩
  dsimp only
  refine hK.out _ _ (S1.out.trans ((HBN.out.mono S1.out.size).trans (hbY.mono (by have := S1.out.size; have := HBN.out.size; omega)))) (fun hHeld => ?_)
  clear hK K
  try simp only [Act.put, List.setIfInBounds_toArray, List.set_cons_zero, List.set_cons_succ, Array.toArray_toList, List.getElem_toArray, List.getElem_cons_zero, List.getElem_cons_succ]
  refine tk 7 (v := ?v12) ?y12 hHeld ?r12
  case y12 => intro w hSw; go_simp; try with_reducible rfl
  try simp only [Act.put, List.setIfInBounds_toArray, List.set_cons_zero, List.set_cons_succ, Array.toArray_toList, List.getElem_toArray, List.getElem_cons_zero, List.getElem_cons_succ]
  refine wpAnyH_done (by kernel_rfl) ?_ _
  refine NoPanic.normal ?_
  go_wp2
  go_ret
  have e0 := EY.out
  have e1 := HB0w.out.size
  have e2 := S1.out.size
  have e3 := HBN.out.size
  exact ⟨v, rfl, (ho.mono (by omega) : _), HB0w.out.trans ((S1.out.mono (by omega)).trans ((HBN.out.mono (by omega)).trans (hbY.mono (by omega))))⟩

end Go.Proofs.Ytehpfemlcjcabaa
