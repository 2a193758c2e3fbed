/-
  What Enc answers.
-/

import Derived.Test.YtehpfemlcjcabaaCoA
import Derived.Test.YtehpfemlcjcabaaCoB
namespace Go.Proofs.Ytehpfemlcjcabaa

open Go.RowKit

set_option linter.unusedVariables false

set_option linter.unusedSimpArgs false

attribute [local go_sem ↓] sv24_eq lv24_eq ix22_eq slr_eq bd27_eq bs22_eq sv8_eq mkI_eq ixI_eq ixP_eq bsP_eq lvCheckpoint_eq lvHeader_eq

set_option maxRecDepth 20000 in
set_option maxHeartbeats 2000000 in
theorem encValidator_any (x : VValidator) (w : World) (hx : OkValidator x) :
    Calls Try.prog 30 #[.agg (cel (sValidator x))] w fun e w' => ∃ v, e = .returned v ∧ w'.ownsRow w.heap.size 5 1 v 121 (bl (ct7 (eValidator x)) 121) ∧ Below w.heap.size w w' := by
  have HX := hid hx
  obtain ⟨W0, hW0⟩ : ∃ W, w.alloc (.cells (cel (sValidator x)) 64) = W := ⟨_, rfl⟩
  have hB0 : Below w.heap.size w W0 := by rw [← hW0]; exact (Below.refl _ _).alloc (Nat.le_refl _) _
  have r0 : W0.heap[w.heap.size]? = some (.cells (cel (sValidator x)) 64) := by rw [← hW0]; exact heap_new rfl
  have z0 : w.heap.size < W0.heap.size := by rw [← hW0]; simp
  obtain ⟨y, ey⟩ : ∃ y, w.heap.size = y := ⟨_, rfl⟩
  have hry : ∀ X, Below W0.heap.size W0 X → X.heap[y]? = some (.cells (cel (sValidator x)) 64) := fun X h => by rw [← ey]; exact (h.block _ z0).trans r0
  have HB0 : Hid (∀ X, Below W0.heap.size W0 X → Bys X (some ⟨y, 0, none⟩) 48 48 x.f0) := fun X h => seg_bys (hry X h) 0 48 x.f0 rfl 0 rfl (by omega)
  have HB1 : Hid (∀ X, Below W0.heap.size W0 X → Bys X (some ⟨y, 48, none⟩) 32 32 x.f1) := fun X h => seg_bys (hry X h) 1 32 x.f1 rfl 48 rfl (by omega)
  have HL2 : Hid (∀ X, Below W0.heap.size W0 X → X.cell? ⟨y, 80, none⟩ = some (.int .u64 x.f2)) := fun X h => seg_nu (hry X h) 2 x.f2 rfl 80 rfl
  have HL3 : Hid (∀ X, Below W0.heap.size W0 X → X.cell? ⟨y, 81, none⟩ = some (.bool x.f3)) := fun X h => seg_bo (hry X h) 3 x.f3 rfl 81 rfl
  have HL4 : Hid (∀ X, Below W0.heap.size W0 X → X.cell? ⟨y, 82, none⟩ = some (.int .u64 x.f4)) := fun X h => seg_nu (hry X h) 4 x.f4 rfl 82 rfl
  have HL5 : Hid (∀ X, Below W0.heap.size W0 X → X.cell? ⟨y, 83, none⟩ = some (.int .u64 x.f5)) := fun X h => seg_nu (hry X h) 5 x.f5 rfl 83 rfl
  have HL6 : Hid (∀ X, Below W0.heap.size W0 X → X.cell? ⟨y, 84, none⟩ = some (.int .u64 x.f6)) := fun X h => seg_nu (hry X h) 6 x.f6 rfl 84 rfl
  have HL7 : Hid (∀ X, Below W0.heap.size W0 X → X.cell? ⟨y, 85, none⟩ = some (.int .u64 x.f7)) := fun X h => seg_nu (hry X h) 7 x.f7 rfl 85 rfl
  have hdr : Below W0.heap.size W0 W0.drew := (Below.refl _ _).drew
  have S0 := hid hdr
  have HB0w := hid hB0
  have EY := hid ey
  clear hdr hB0 r0 hry hx
  go_enter Try.func30, Try.ntmps30
  go_upto_region 1 with fail
  clear hW0 ey z0
  refine wp_region_noPanic ?_
  refine wp_region_held_drew (S := fun X => Below W0.heap.size W0 X) (by kernel_rfl) (S0.out) (fun hHeld => ?_)
  refine tk 0 (v := ?v13) ?y13 hHeld ?r13
  case y13 => intro w hSw; go_simp; try with_reducible rfl
  refine tk 1 (v := ?v14) ?y14 hHeld ?r14
  case y14 => intro w hSw; go_simp; try with_reducible rfl
  refine tk 2 (v := ?v15) ?y15 hHeld ?r15
  case y15 => intro w hSw; go_simp; try with_reducible rfl
  refine tk 3 (v := ?v16) ?y16 hHeld ?r16
  case y16 => intro w hSw; go_simp; try with_reducible rfl
  refine tk 4 (v := ?v17) ?y17 hHeld ?r17
  case y17 => intro w hSw; go_simp; try with_reducible rfl
  refine tk 5 (v := ?v18) ?y18 hHeld ?r18
  case y18 => intro w hSw; have ld := HL2.out _ hSw; go_simp; try with_reducible rfl
  refine tk 7 (v := ?v19) ?y19 hHeld ?r19
  case y19 => intro w hSw; go_simp; try with_reducible rfl
  refine tk 8 (v := ?v20) ?y20 hHeld ?r20
  case y20 => intro w hSw; have ld := HL3.out _ hSw; go_simp; try with_reducible rfl
  refine tk 10 (v := ?v21) ?y21 hHeld ?r21
  case y21 => intro w hSw; go_simp; try with_reducible rfl
  refine tk 11 (v := ?v22) ?y22 hHeld ?r22
  case y22 => intro w hSw; have ld := HL4.out _ hSw; go_simp; try with_reducible rfl
  refine tk 13 (v := ?v23) ?y23 hHeld ?r23
  case y23 => intro w hSw; go_simp; try with_reducible rfl
  refine tk 14 (v := ?v24) ?y24 hHeld ?r24
  case y24 => intro w hSw; have ld := HL5.out _ hSw; go_simp; try with_reducible rfl
  refine tk 16 (v := ?v25) ?y25 hHeld ?r25
  case y25 => intro w hSw; go_simp; try with_reducible rfl
  refine tk 17 (v := ?v26) ?y26 hHeld ?r26
  case y26 => intro w hSw; have ld := HL6.out _ hSw; go_simp; try with_reducible rfl
  refine tk 19 (v := ?v27) ?y27 hHeld ?r27
  case y27 => intro w hSw; go_simp; try with_reducible rfl
  refine tk 20 (v := ?v28) ?y28 hHeld ?r28
  case y28 => intro w hSw; have ld := HL7.out _ hSw; go_simp; try with_reducible rfl
  try simp only [Act.put, List.setIfInBounds_toArray, List.set_cons_zero, List.set_cons_succ, Array.toArray_toList, List.getElem_toArray, List.getElem_cons_zero, List.getElem_cons_succ]
  refine wpAnyH_ready (rs := [6]) (by kernel_rfl) (by simp) ?_
  refine AllReadyH.cons rfl (fun K hK => ?_) AllReadyH.nil
  go_simp
  refine (nbytes_any x.f2 _ HX.out.2.2.1.1 HX.out.2.2.1.2).mono ?_
  rintro e X1 ⟨g1, rfl, hb1, hg1, hr1⟩
  dsimp only
  have S1 := hid (S0.out.trans (hb1.mono S0.out.size))
  have R2 := hid (show ∀ X, Below X1.heap.size X1 X → Bys X (some ⟨g1, 0, none⟩) 8 8 (nmB x.f2) from fun X h => (bys_new hr1 (by omega)).below h)
  clear hb1 hr1 hg1
  refine hK.out _ _ (S1.out) (fun hHeld => ?_)
  clear hK K
  try simp only [Act.put, List.setIfInBounds_toArray, List.set_cons_zero, List.set_cons_succ, Array.toArray_toList, List.getElem_toArray, List.getElem_cons_zero, List.getElem_cons_succ]
  refine wpAnyH_ready (rs := [9]) (by kernel_rfl) (by simp) ?_
  refine AllReadyH.cons rfl (fun K hK => ?_) AllReadyH.nil
  go_simp
  refine (bbytes_any x.f3 _).mono ?_
  rintro e X2 ⟨g2, rfl, hb2, hr2⟩
  dsimp only
  have K1 := hid (show Below X1.heap.size X1 X2 from hb2)
  have S2 := hid (S1.out.trans (hb2.mono S1.out.size))
  have R3 := hid (show ∀ X, Below X2.heap.size X2 X → Bys X (some ⟨g2, 0, none⟩) 1 1 (bbB x.f3) from fun X h => hr2.below h)
  clear hb2 hr2
  refine hK.out _ _ (S2.out) (fun hHeld => ?_)
  clear hK K
  try simp only [Act.put, List.setIfInBounds_toArray, List.set_cons_zero, List.set_cons_succ, Array.toArray_toList, List.getElem_toArray, List.getElem_cons_zero, List.getElem_cons_succ]
  refine wpAnyH_ready (rs := [12]) (by kernel_rfl) (by simp) ?_
  refine AllReadyH.cons rfl (fun K hK => ?_) AllReadyH.nil
  go_simp
  refine (nbytes_any x.f4 _ HX.out.2.2.2.2.1.1 HX.out.2.2.2.2.1.2).mono ?_
  rintro e X3 ⟨g3, rfl, hb3, hg3, hr3⟩
  dsimp only
  replace K1 := hid (K1.out.trans (hb3.mono K1.out.size))
  have K2 := hid (show Below X2.heap.size X2 X3 from hb3)
  have S3 := hid (S2.out.trans (hb3.mono S2.out.size))
  have R4 := hid (show ∀ X, Below X3.heap.size X3 X → Bys X (some ⟨g3, 0, none⟩) 8 8 (nmB x.f4) from fun X h => (bys_new hr3 (by omega)).below h)
  clear hb3 hr3 hg3
  refine hK.out _ _ (S3.out) (fun hHeld => ?_)
  clear hK K
  try simp only [Act.put, List.setIfInBounds_toArray, List.set_cons_zero, List.set_cons_succ, Array.toArray_toList, List.getElem_toArray, List.getElem_cons_zero, List.getElem_cons_succ]
  refine wpAnyH_ready (rs := [15]) (by kernel_rfl) (by simp) ?_
  refine AllReadyH.cons rfl (fun K hK => ?_) AllReadyH.nil
  go_simp
  refine (nbytes_any x.f5 _ HX.out.2.2.2.2.2.1.1 HX.out.2.2.2.2.2.1.2).mono ?_
  rintro e X4 ⟨g4, rfl, hb4, hg4, hr4⟩
  dsimp only
  replace K1 := hid (K1.out.trans (hb4.mono K1.out.size))
  replace K2 := hid (K2.out.trans (hb4.mono K2.out.size))
  have K3 := hid (show Below X3.heap.size X3 X4 from hb4)
  have S4 := hid (S3.out.trans (hb4.mono S3.out.size))
  have R5 := hid (show ∀ X, Below X4.heap.size X4 X → Bys X (some ⟨g4, 0, none⟩) 8 8 (nmB x.f5) from fun X h => (bys_new hr4 (by omega)).below h)
  clear hb4 hr4 hg4
  refine hK.out _ _ (S4.out) (fun hHeld => ?_)
  clear hK K
  try simp only [Act.put, List.setIfInBounds_toArray, List.set_cons_zero, List.set_cons_succ, Array.toArray_toList, List.getElem_toArray, List.getElem_cons_zero, List.getElem_cons_succ]
  refine wpAnyH_ready (rs := [18]) (by kernel_rfl) (by simp) ?_
  refine AllReadyH.cons rfl (fun K hK => ?_) AllReadyH.nil
  go_simp
  refine (nbytes_any x.f6 _ HX.out.2.2.2.2.2.2.1.1 HX.out.2.2.2.2.2.2.1.2).mono ?_
  rintro e X5 ⟨g5, rfl, hb5, hg5, hr5⟩
  dsimp only
  replace K1 := hid (K1.out.trans (hb5.mono K1.out.size))
  replace K2 := hid (K2.out.trans (hb5.mono K2.out.size))
  replace K3 := hid (K3.out.trans (hb5.mono K3.out.size))
  have K4 := hid (show Below X4.heap.size X4 X5 from hb5)
  have S5 := hid (S4.out.trans (hb5.mono S4.out.size))
  have R6 := hid (show ∀ X, Below X5.heap.size X5 X → Bys X (some ⟨g5, 0, none⟩) 8 8 (nmB x.f6) from fun X h => (bys_new hr5 (by omega)).below h)
  clear hb5 hr5 hg5
  refine hK.out _ _ (S5.out) (fun hHeld => ?_)
  clear hK K
  try simp only [Act.put, List.setIfInBounds_toArray, List.set_cons_zero, List.set_cons_succ, Array.toArray_toList, List.getElem_toArray, List.getElem_cons_zero, List.getElem_cons_succ]
  refine wpAnyH_ready (rs := [21]) (by kernel_rfl) (by simp) ?_
  refine AllReadyH.cons rfl (fun K hK => ?_) AllReadyH.nil
  go_simp
  refine (nbytes_any x.f7 _ HX.out.2.2.2.2.2.2.2.1 HX.out.2.2.2.2.2.2.2.2).mono ?_
  rintro e X6 ⟨g6, rfl, hb6, hg6, hr6⟩
  dsimp only
  replace K1 := hid (K1.out.trans (hb6.mono K1.out.size))
  replace K2 := hid (K2.out.trans (hb6.mono K2.out.size))
  replace K3 := hid (K3.out.trans (hb6.mono K3.out.size))
  replace K4 := hid (K4.out.trans (hb6.mono K4.out.size))
  have K5 := hid (show Below X5.heap.size X5 X6 from hb6)
  have S6 := hid (S5.out.trans (hb6.mono S5.out.size))
  have R7 := hid (show ∀ X, Below X6.heap.size X6 X → Bys X (some ⟨g6, 0, none⟩) 8 8 (nmB x.f7) from fun X h => (bys_new hr6 (by omega)).below h)
  clear hb6 hr6 hg6
  refine hK.out _ _ (S6.out) (fun hHeld => ?_)
  clear hK K
  try simp only [Act.put, List.setIfInBounds_toArray, List.set_cons_zero, List.set_cons_succ, Array.toArray_toList, List.getElem_toArray, List.getElem_cons_zero, List.getElem_cons_succ]
  have bs : (bsP 8 #[(0, Value.slice (some ⟨y, 0, none⟩) 48 48), (1, Value.slice (some ⟨y, 48, none⟩) 32 32), (2, Value.slice (some ⟨g1, 0, none⟩) 8 8), (3, Value.slice (some ⟨g2, 0, none⟩) 1 1), (4, Value.slice (some ⟨g3, 0, none⟩) 8 8), (5, Value.slice (some ⟨g4, 0, none⟩) 8 8), (6, Value.slice (some ⟨g5, 0, none⟩) 8 8), (7, Value.slice (some ⟨g6, 0, none⟩) 8 8)]).run Try.prog X6 = .ok (.slice (some ⟨X6.heap.size, 0, none⟩) 8 8) (X6.alloc (.cells (([(some ⟨y, 0, none⟩, 48, 48, x.f0), (some ⟨y, 48, none⟩, 32, 32, x.f1), (some ⟨g1, 0, none⟩, 8, 8, nmB x.f2), (some ⟨g2, 0, none⟩, 1, 1, bbB x.f3), (some ⟨g3, 0, none⟩, 8, 8, nmB x.f4), (some ⟨g4, 0, none⟩, 8, 8, nmB x.f5), (some ⟨g5, 0, none⟩, 8, 8, nmB x.f6), (some ⟨g6, 0, none⟩, 8, 8, nmB x.f7)] : List Pt).map ptv).toArray 39)) := bsP_8 X6 (some ⟨y, 0, none⟩, 48, 48, x.f0) (some ⟨y, 48, none⟩, 32, 32, x.f1) (some ⟨g1, 0, none⟩, 8, 8, nmB x.f2) (some ⟨g2, 0, none⟩, 1, 1, bbB x.f3) (some ⟨g3, 0, none⟩, 8, 8, nmB x.f4) (some ⟨g4, 0, none⟩, 8, 8, nmB x.f5) (some ⟨g5, 0, none⟩, 8, 8, nmB x.f6) (some ⟨g6, 0, none⟩, 8, 8, nmB x.f7)
  have hBn : Below X6.heap.size X6 (X6.alloc (.cells (([(some ⟨y, 0, none⟩, 48, 48, x.f0), (some ⟨y, 48, none⟩, 32, 32, x.f1), (some ⟨g1, 0, none⟩, 8, 8, nmB x.f2), (some ⟨g2, 0, none⟩, 1, 1, bbB x.f3), (some ⟨g3, 0, none⟩, 8, 8, nmB x.f4), (some ⟨g4, 0, none⟩, 8, 8, nmB x.f5), (some ⟨g5, 0, none⟩, 8, 8, nmB x.f6), (some ⟨g6, 0, none⟩, 8, 8, nmB x.f7)] : List Pt).map ptv).toArray 39)) := (Below.refl _ _).alloc (Nat.le_refl _) _
  have hla := lay7 ([(some ⟨y, 0, none⟩, 48, 48, x.f0), (some ⟨y, 48, none⟩, 32, 32, x.f1), (some ⟨g1, 0, none⟩, 8, 8, nmB x.f2), (some ⟨g2, 0, none⟩, 1, 1, bbB x.f3), (some ⟨g3, 0, none⟩, 8, 8, nmB x.f4), (some ⟨g4, 0, none⟩, 8, 8, nmB x.f5), (some ⟨g5, 0, none⟩, 8, 8, nmB x.f6), (some ⟨g6, 0, none⟩, 8, 8, nmB x.f7)] : List Pt) X6.heap.size (X6.alloc (.cells (([(some ⟨y, 0, none⟩, 48, 48, x.f0), (some ⟨y, 48, none⟩, 32, 32, x.f1), (some ⟨g1, 0, none⟩, 8, 8, nmB x.f2), (some ⟨g2, 0, none⟩, 1, 1, bbB x.f3), (some ⟨g3, 0, none⟩, 8, 8, nmB x.f4), (some ⟨g4, 0, none⟩, 8, 8, nmB x.f5), (some ⟨g5, 0, none⟩, 8, 8, nmB x.f6), (some ⟨g6, 0, none⟩, 8, 8, nmB x.f7)] : List Pt).map ptv).toArray 39)) (heap_new rfl) (fun r hr => by
    have hr' : r < 8 := hr
    rcases (by omega : r = 0 ∨ r = 1 ∨ r = 2 ∨ r = 3 ∨ r = 4 ∨ r = 5 ∨ r = 6 ∨ r = 7) with rfl | rfl | rfl | rfl | rfl | rfl | rfl | rfl
    · exact HB0.out _ (S6.out.trans (hBn.mono S6.out.size))
    · exact HB1.out _ (S6.out.trans (hBn.mono S6.out.size))
    · exact R2.out _ (K1.out.trans (hBn.mono K1.out.size))
    · exact R3.out _ (K2.out.trans (hBn.mono K2.out.size))
    · exact R4.out _ (K3.out.trans (hBn.mono K3.out.size))
    · exact R5.out _ (K4.out.trans (hBn.mono K4.out.size))
    · exact R6.out _ (K5.out.trans (hBn.mono K5.out.size))
    · exact R7.out _ hBn
  ) (fun r hr => by
    have hr' : r < 8 := hr
    rcases (by omega : r = 0 ∨ r = 1 ∨ r = 2 ∨ r = 3 ∨ r = 4 ∨ r = 5 ∨ r = 6 ∨ r = 7) with rfl | rfl | rfl | rfl | rfl | rfl | rfl | rfl
    all_goals exact ⟨Nat.le_of_ble_eq_true rfl, Nat.le_of_ble_eq_true rfl⟩) (Nat.le_of_ble_eq_true rfl) (Nat.le_of_ble_eq_true rfl)
  have HLA := hid hla
  have HBN := hid hBn
  clear hla hBn
  refine wpAnyH_ready (rs := [22]) (by kernel_rfl) (by simp) ?_
  refine AllReadyH.cons rfl (fun K hK => ?_) AllReadyH.nil
  go_simp
  refine hK.out _ _ (S6.out.trans (HBN.out.mono S6.out.size)) (fun hHeld => ?_)
  clear hK K bs
  try simp only [Act.put, List.setIfInBounds_toArray, List.set_cons_zero, List.set_cons_succ, Array.toArray_toList, List.getElem_toArray, List.getElem_cons_zero, List.getElem_cons_succ]
  refine wpAnyH_ready (rs := [23]) (by kernel_rfl) (by simp) ?_
  refine AllReadyH.cons rfl (fun K hK => ?_) AllReadyH.nil
  go_simp
  refine (HLA.out).mono ?_
  rintro e Y ⟨v, rfl, ho, hbY⟩
  dsimp only
  refine hK.out _ _ (S6.out.trans ((HBN.out.mono S6.out.size).trans (hbY.mono (by have := S6.out.size; have := HBN.out.size; omega)))) (fun hHeld => ?_)
  clear hK K
  try simp only [Act.put, List.setIfInBounds_toArray, List.set_cons_zero, List.set_cons_succ, Array.toArray_toList, List.getElem_toArray, List.getElem_cons_zero, List.getElem_cons_succ]
  refine tk 24 (v := ?v29) ?y29 hHeld ?r29
  case y29 => intro w hSw; go_simp; try with_reducible rfl
  try simp only [Act.put, List.setIfInBounds_toArray, List.set_cons_zero, List.set_cons_succ, Array.toArray_toList, List.getElem_toArray, List.getElem_cons_zero, List.getElem_cons_succ]
  refine wpAnyH_done (by kernel_rfl) ?_ _
  refine NoPanic.normal ?_
  go_wp2
  go_ret
  have e0 := EY.out
  have e1 := HB0w.out.size
  have e2 := S6.out.size
  have e3 := HBN.out.size
  exact ⟨v, rfl, (ho.mono (by omega) : _), HB0w.out.trans ((S6.out.mono (by omega)).trans ((HBN.out.mono (by omega)).trans (hbY.mono (by omega))))⟩

end Go.Proofs.Ytehpfemlcjcabaa
