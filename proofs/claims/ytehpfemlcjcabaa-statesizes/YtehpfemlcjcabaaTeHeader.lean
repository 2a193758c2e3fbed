/-
  What Enc answers.
-/

import Derived.Test.YtehpfemlcjcabaaCoA
import Derived.Test.YtehpfemlcjcabaaCoB
namespace Go.Proofs.Ytehpfemlcjcabaa

open Go.RowKit

set_option linter.unusedVariables false

set_option linter.unusedSimpArgs false

attribute [local go_sem ↓] sv24_eq lv24_eq ix22_eq slr_eq bd27_eq bs22_eq sv8_eq mkI_eq ixI_eq ixP_eq bsP_eq lvCheckpoint_eq lvHeader_eq

set_option maxRecDepth 20000 in
set_option maxHeartbeats 2000000 in
theorem encHeader_any (x : VHeader) (w : World) (hx : OkHeader x) :
    Calls Try.prog 25 #[.agg (cel (sHeader x))] w fun e w' => ∃ v, e = .returned v ∧ w'.ownsRow w.heap.size 5 1 v 112 (bl (ct7 (eHeader x)) 112) ∧ Below w.heap.size w w' := by
  have HX := hid hx
  obtain ⟨W0, hW0⟩ : ∃ W, w.alloc (.cells (cel (sHeader x)) 30) = W := ⟨_, rfl⟩
  have hB0 : Below w.heap.size w W0 := by rw [← hW0]; exact (Below.refl _ _).alloc (Nat.le_refl _) _
  have r0 : W0.heap[w.heap.size]? = some (.cells (cel (sHeader x)) 30) := by rw [← hW0]; exact heap_new rfl
  have z0 : w.heap.size < W0.heap.size := by rw [← hW0]; simp
  obtain ⟨y, ey⟩ : ∃ y, w.heap.size = y := ⟨_, rfl⟩
  have hry : ∀ X, Below W0.heap.size W0 X → X.heap[y]? = some (.cells (cel (sHeader x)) 30) := fun X h => by rw [← ey]; exact (h.block _ z0).trans r0
  have HL0 : Hid (∀ X, Below W0.heap.size W0 X → X.cell? ⟨y, 0, none⟩ = some (.int .u64 x.f0)) := fun X h => seg_nu (hry X h) 0 x.f0 rfl 0 rfl
  have HL1 : Hid (∀ X, Below W0.heap.size W0 X → X.cell? ⟨y, 1, none⟩ = some (.int .u64 x.f1)) := fun X h => seg_nu (hry X h) 1 x.f1 rfl 1 rfl
  have HB2 : Hid (∀ X, Below W0.heap.size W0 X → Bys X (some ⟨y, 2, none⟩) 32 32 x.f2) := fun X h => seg_bys (hry X h) 2 32 x.f2 rfl 2 rfl (by omega)
  have HB3 : Hid (∀ X, Below W0.heap.size W0 X → Bys X (some ⟨y, 34, none⟩) 32 32 x.f3) := fun X h => seg_bys (hry X h) 3 32 x.f3 rfl 34 rfl (by omega)
  have HB4 : Hid (∀ X, Below W0.heap.size W0 X → Bys X (some ⟨y, 66, none⟩) 32 32 x.f4) := fun X h => seg_bys (hry X h) 4 32 x.f4 rfl 66 rfl (by omega)
  have hdr : Below W0.heap.size W0 W0.drew := (Below.refl _ _).drew
  have S0 := hid hdr
  have HB0w := hid hB0
  have EY := hid ey
  clear hdr hB0 r0 hry hx
  go_enter Try.func25, Try.ntmps25
  go_upto_region 1 with fail
  clear hW0 ey z0
  refine wp_region_noPanic ?_
  refine wp_region_held_drew (S := fun X => Below W0.heap.size W0 X) (by kernel_rfl) (S0.out) (fun hHeld => ?_)
  refine tk 0 (v := ?v48) ?y48 hHeld ?r48
  case y48 => intro w hSw; go_simp; try with_reducible rfl
  refine tk 1 (v := ?v49) ?y49 hHeld ?r49
  case y49 => intro w hSw; have ld := HL0.out _ hSw; go_simp; try with_reducible rfl
  refine tk 3 (v := ?v50) ?y50 hHeld ?r50
  case y50 => intro w hSw; go_simp; try with_reducible rfl
  refine tk 4 (v := ?v51) ?y51 hHeld ?r51
  case y51 => intro w hSw; have ld := HL1.out _ hSw; go_simp; try with_reducible rfl
  refine tk 6 (v := ?v52) ?y52 hHeld ?r52
  case y52 => intro w hSw; go_simp; try with_reducible rfl
  refine tk 7 (v := ?v53) ?y53 hHeld ?r53
  case y53 => intro w hSw; go_simp; try with_reducible rfl
  refine tk 8 (v := ?v54) ?y54 hHeld ?r54
  case y54 => intro w hSw; go_simp; try with_reducible rfl
  refine tk 9 (v := ?v55) ?y55 hHeld ?r55
  case y55 => intro w hSw; go_simp; try with_reducible rfl
  refine tk 10 (v := ?v56) ?y56 hHeld ?r56
  case y56 => intro w hSw; go_simp; try with_reducible rfl
  refine tk 11 (v := ?v57) ?y57 hHeld ?r57
  case y57 => intro w hSw; go_simp; try with_reducible rfl
  try simp only [Act.put, List.setIfInBounds_toArray, List.set_cons_zero, List.set_cons_succ, Array.toArray_toList, List.getElem_toArray, List.getElem_cons_zero, List.getElem_cons_succ]
  refine wpAnyH_ready (rs := [2]) (by kernel_rfl) (by simp) ?_
  refine AllReadyH.cons rfl (fun K hK => ?_) AllReadyH.nil
  go_simp
  refine (nbytes_any x.f0 _ HX.out.1.1 HX.out.1.2).mono ?_
  rintro e X1 ⟨g1, rfl, hb1, hg1, hr1⟩
  dsimp only
  have S1 := hid (S0.out.trans (hb1.mono S0.out.size))
  have R0 := hid (show ∀ X, Below X1.heap.size X1 X → Bys X (some ⟨g1, 0, none⟩) 8 8 (nmB x.f0) from fun X h => (bys_new hr1 (by omega)).below h)
  clear hb1 hr1 hg1
  refine hK.out _ _ (S1.out) (fun hHeld => ?_)
  clear hK K
  try simp only [Act.put, List.setIfInBounds_toArray, List.set_cons_zero, List.set_cons_succ, Array.toArray_toList, List.getElem_toArray, List.getElem_cons_zero, List.getElem_cons_succ]
  refine wpAnyH_ready (rs := [5]) (by kernel_rfl) (by simp) ?_
  refine AllReadyH.cons rfl (fun K hK => ?_) AllReadyH.nil
  go_simp
  refine (nbytes_any x.f1 _ HX.out.2.1.1 HX.out.2.1.2).mono ?_
  rintro e X2 ⟨g2, rfl, hb2, hg2, hr2⟩
  dsimp only
  have K1 := hid (show Below X1.heap.size X1 X2 from hb2)
  have S2 := hid (S1.out.trans (hb2.mono S1.out.size))
  have R1 := hid (show ∀ X, Below X2.heap.size X2 X → Bys X (some ⟨g2, 0, none⟩) 8 8 (nmB x.f1) from fun X h => (bys_new hr2 (by omega)).below h)
  clear hb2 hr2 hg2
  refine hK.out _ _ (S2.out) (fun hHeld => ?_)
  clear hK K
  try simp only [Act.put, List.setIfInBounds_toArray, List.set_cons_zero, List.set_cons_succ, Array.toArray_toList, List.getElem_toArray, List.getElem_cons_zero, List.getElem_cons_succ]
  have bs : (bsP 5 #[(0, Value.slice (some ⟨g1, 0, none⟩) 8 8), (1, Value.slice (some ⟨g2, 0, none⟩) 8 8), (2, Value.slice (some ⟨y, 2, none⟩) 32 32), (3, Value.slice (some ⟨y, 34, none⟩) 32 32), (4, Value.slice (some ⟨y, 66, none⟩) 32 32)]).run Try.prog X2 = .ok (.slice (some ⟨X2.heap.size, 0, none⟩) 5 5) (X2.alloc (.cells (([(some ⟨g1, 0, none⟩, 8, 8, nmB x.f0), (some ⟨g2, 0, none⟩, 8, 8, nmB x.f1), (some ⟨y, 2, none⟩, 32, 32, x.f2), (some ⟨y, 34, none⟩, 32, 32, x.f3), (some ⟨y, 66, none⟩, 32, 32, x.f4)] : List Pt).map ptv).toArray 39)) := bsP_5 X2 (some ⟨g1, 0, none⟩, 8, 8, nmB x.f0) (some ⟨g2, 0, none⟩, 8, 8, nmB x.f1) (some ⟨y, 2, none⟩, 32, 32, x.f2) (some ⟨y, 34, none⟩, 32, 32, x.f3) (some ⟨y, 66, none⟩, 32, 32, x.f4)
  have hBn : Below X2.heap.size X2 (X2.alloc (.cells (([(some ⟨g1, 0, none⟩, 8, 8, nmB x.f0), (some ⟨g2, 0, none⟩, 8, 8, nmB x.f1), (some ⟨y, 2, none⟩, 32, 32, x.f2), (some ⟨y, 34, none⟩, 32, 32, x.f3), (some ⟨y, 66, none⟩, 32, 32, x.f4)] : List Pt).map ptv).toArray 39)) := (Below.refl _ _).alloc (Nat.le_refl _) _
  have hla := lay7 ([(some ⟨g1, 0, none⟩, 8, 8, nmB x.f0), (some ⟨g2, 0, none⟩, 8, 8, nmB x.f1), (some ⟨y, 2, none⟩, 32, 32, x.f2), (some ⟨y, 34, none⟩, 32, 32, x.f3), (some ⟨y, 66, none⟩, 32, 32, x.f4)] : List Pt) X2.heap.size (X2.alloc (.cells (([(some ⟨g1, 0, none⟩, 8, 8, nmB x.f0), (some ⟨g2, 0, none⟩, 8, 8, nmB x.f1), (some ⟨y, 2, none⟩, 32, 32, x.f2), (some ⟨y, 34, none⟩, 32, 32, x.f3), (some ⟨y, 66, none⟩, 32, 32, x.f4)] : List Pt).map ptv).toArray 39)) (heap_new rfl) (fun r hr => by
    have hr' : r < 5 := hr
    rcases (by omega : r = 0 ∨ r = 1 ∨ r = 2 ∨ r = 3 ∨ r = 4) with rfl | rfl | rfl | rfl | rfl
    · exact R0.out _ (K1.out.trans (hBn.mono K1.out.size))
    · exact R1.out _ hBn
    · exact HB2.out _ (S2.out.trans (hBn.mono S2.out.size))
    · exact HB3.out _ (S2.out.trans (hBn.mono S2.out.size))
    · exact HB4.out _ (S2.out.trans (hBn.mono S2.out.size))
  ) (fun r hr => by
    have hr' : r < 5 := hr
    rcases (by omega : r = 0 ∨ r = 1 ∨ r = 2 ∨ r = 3 ∨ r = 4) with rfl | rfl | rfl | rfl | rfl
    all_goals exact ⟨Nat.le_of_ble_eq_true rfl, Nat.le_of_ble_eq_true rfl⟩) (Nat.le_of_ble_eq_true rfl) (Nat.le_of_ble_eq_true rfl)
  have HLA := hid hla
  have HBN := hid hBn
  clear hla hBn
  refine wpAnyH_ready (rs := [12]) (by kernel_rfl) (by simp) ?_
  refine AllReadyH.cons rfl (fun K hK => ?_) AllReadyH.nil
  go_simp
  refine hK.out _ _ (S2.out.trans (HBN.out.mono S2.out.size)) (fun hHeld => ?_)
  clear hK K bs
  try simp only [Act.put, List.setIfInBounds_toArray, List.set_cons_zero, List.set_cons_succ, Array.toArray_toList, List.getElem_toArray, List.getElem_cons_zero, List.getElem_cons_succ]
  refine wpAnyH_ready (rs := [13]) (by kernel_rfl) (by simp) ?_
  refine AllReadyH.cons rfl (fun K hK => ?_) AllReadyH.nil
  go_simp
  refine (HLA.out).mono ?_
  rintro e Y ⟨v, rfl, ho, hbY⟩
  dsimp only
  refine hK.out _ _ (S2.out.trans ((HBN.out.mono S2.out.size).trans (hbY.mono (by have := S2.out.size; have := HBN.out.size; omega)))) (fun hHeld => ?_)
  clear hK K
  try simp only [Act.put, List.setIfInBounds_toArray, List.set_cons_zero, List.set_cons_succ, Array.toArray_toList, List.getElem_toArray, List.getElem_cons_zero, List.getElem_cons_succ]
  refine tk 14 (v := ?v58) ?y58 hHeld ?r58
  case y58 => intro w hSw; go_simp; try with_reducible rfl
  try simp only [Act.put, List.setIfInBounds_toArray, List.set_cons_zero, List.set_cons_succ, Array.toArray_toList, List.getElem_toArray, List.getElem_cons_zero, List.getElem_cons_succ]
  refine wpAnyH_done (by kernel_rfl) ?_ _
  refine NoPanic.normal ?_
  go_wp2
  go_ret
  have e0 := EY.out
  have e1 := HB0w.out.size
  have e2 := S2.out.size
  have e3 := HBN.out.size
  exact ⟨v, rfl, (ho.mono (by omega) : _), HB0w.out.trans ((S2.out.mono (by omega)).trans ((HBN.out.mono (by omega)).trans (hbY.mono (by omega))))⟩

end Go.Proofs.Ytehpfemlcjcabaa
