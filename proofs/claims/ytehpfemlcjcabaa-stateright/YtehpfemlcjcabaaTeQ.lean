/-
  What Enc answers.
  What Enc answers.
  What Enc answers.
  What Enc answers.
  What Enc answers.
-/
import Derived.Test.YtehpfemlcjcabaaCoA
import Derived.Test.YtehpfemlcjcabaaCoB
namespace Go.Proofs.Ytehpfemlcjcabaa

open Go.RowKit

set_option linter.unusedVariables false

set_option linter.unusedSimpArgs false

attribute [local go_sem ↓] sv24_eq lv24_eq ix22_eq slr_eq bd27_eq bs22_eq sv8_eq mkI_eq ixI_eq ixP_eq bsP_eq lvCheckpoint_eq lvHeader_eq

set_option maxRecDepth 20000 in
set_option maxHeartbeats 2000000 in
theorem encFork_any (x : VFork) (w : World) (hx : OkFork x) :
    Calls Try.prog 24 #[.agg (cel (sFork x))] w fun e w' => ∃ v, e = .returned v ∧ w'.ownsRow w.heap.size 5 1 v 16 (bl (ct7 (eFork x)) 16) ∧ Below w.heap.size w w' := by
  have HX := hid hx
  obtain ⟨W0, hW0⟩ : ∃ W, w.alloc (.cells (cel (sFork x)) 28) = W := ⟨_, rfl⟩
  have hB0 : Below w.heap.size w W0 := by rw [← hW0]; exact (Below.refl _ _).alloc (Nat.le_refl _) _
  have r0 : W0.heap[w.heap.size]? = some (.cells (cel (sFork x)) 28) := by rw [← hW0]; exact heap_new rfl
  have z0 : w.heap.size < W0.heap.size := by rw [← hW0]; simp
  obtain ⟨y, ey⟩ : ∃ y, w.heap.size = y := ⟨_, rfl⟩
  have hry : ∀ X, Below W0.heap.size W0 X → X.heap[y]? = some (.cells (cel (sFork x)) 28) := fun X h => by rw [← ey]; exact (h.block _ z0).trans r0
  have HB0 : Hid (∀ X, Below W0.heap.size W0 X → Bys X (some ⟨y, 0, none⟩) 4 4 x.f0) := fun X h => seg_bys (hry X h) 0 4 x.f0 rfl 0 rfl (by omega)
  have HB1 : Hid (∀ X, Below W0.heap.size W0 X → Bys X (some ⟨y, 4, none⟩) 4 4 x.f1) := fun X h => seg_bys (hry X h) 1 4 x.f1 rfl 4 rfl (by omega)
  have HL2 : Hid (∀ X, Below W0.heap.size W0 X → X.cell? ⟨y, 8, none⟩ = some (.int .u64 x.f2)) := fun X h => seg_nu (hry X h) 2 x.f2 rfl 8 rfl
  have hdr : Below W0.heap.size W0 W0.drew := (Below.refl _ _).drew
  have S0 := hid hdr
  have HB0w := hid hB0
  have EY := hid ey
  clear hdr hB0 r0 hry hx
  go_enter Try.func24, Try.ntmps24
  go_upto_region 1 with fail
  clear hW0 ey z0
  refine wp_region_noPanic ?_
  refine wp_region_held_drew (S := fun X => Below W0.heap.size W0 X) (by kernel_rfl) (S0.out) (fun hHeld => ?_)
  refine tk 0 (v := ?v1) ?y1 hHeld ?r1
  case y1 => intro w hSw; go_simp; try with_reducible rfl
  refine tk 1 (v := ?v2) ?y2 hHeld ?r2
  case y2 => intro w hSw; go_simp; try with_reducible rfl
  refine tk 2 (v := ?v3) ?y3 hHeld ?r3
  case y3 => intro w hSw; go_simp; try with_reducible rfl
  refine tk 3 (v := ?v4) ?y4 hHeld ?r4
  case y4 => intro w hSw; go_simp; try with_reducible rfl
  refine tk 4 (v := ?v5) ?y5 hHeld ?r5
  case y5 => intro w hSw; go_simp; try with_reducible rfl
  refine tk 5 (v := ?v6) ?y6 hHeld ?r6
  case y6 => intro w hSw; have ld := HL2.out _ hSw; go_simp; try with_reducible rfl
  try simp only [Act.put, List.setIfInBounds_toArray, List.set_cons_zero, List.set_cons_succ, Array.toArray_toList, List.getElem_toArray, List.getElem_cons_zero, List.getElem_cons_succ]
  refine wpAnyH_ready (rs := [6]) (by kernel_rfl) (by simp) ?_
  refine AllReadyH.cons rfl (fun K hK => ?_) AllReadyH.nil
  go_simp
  refine (nbytes_any x.f2 _ HX.out.2.2.1 HX.out.2.2.2).mono ?_
  rintro e X1 ⟨g1, rfl, hb1, hg1, hr1⟩
  dsimp only
  have S1 := hid (S0.out.trans (hb1.mono S0.out.size))
  have R2 := hid (show ∀ X, Below X1.heap.size X1 X → Bys X (some ⟨g1, 0, none⟩) 8 8 (nmB x.f2) from fun X h => (bys_new hr1 (by omega)).below h)
  clear hb1 hr1 hg1
  refine hK.out _ _ (S1.out) (fun hHeld => ?_)
  clear hK K
  try simp only [Act.put, List.setIfInBounds_toArray, List.set_cons_zero, List.set_cons_succ, Array.toArray_toList, List.getElem_toArray, List.getElem_cons_zero, List.getElem_cons_succ]
  have bs : (bsP 3 #[(0, Value.slice (some ⟨y, 0, none⟩) 4 4), (1, Value.slice (some ⟨y, 4, none⟩) 4 4), (2, Value.slice (some ⟨g1, 0, none⟩) 8 8)]).run Try.prog X1 = .ok (.slice (some ⟨X1.heap.size, 0, none⟩) 3 3) (X1.alloc (.cells (([(some ⟨y, 0, none⟩, 4, 4, x.f0), (some ⟨y, 4, none⟩, 4, 4, x.f1), (some ⟨g1, 0, none⟩, 8, 8, nmB x.f2)] : List Pt).map ptv).toArray 39)) := bsP_3 X1 (some ⟨y, 0, none⟩, 4, 4, x.f0) (some ⟨y, 4, none⟩, 4, 4, x.f1) (some ⟨g1, 0, none⟩, 8, 8, nmB x.f2)
  have hBn : Below X1.heap.size X1 (X1.alloc (.cells (([(some ⟨y, 0, none⟩, 4, 4, x.f0), (some ⟨y, 4, none⟩, 4, 4, x.f1), (some ⟨g1, 0, none⟩, 8, 8, nmB x.f2)] : List Pt).map ptv).toArray 39)) := (Below.refl _ _).alloc (Nat.le_refl _) _
  have hla := lay7 ([(some ⟨y, 0, none⟩, 4, 4, x.f0), (some ⟨y, 4, none⟩, 4, 4, x.f1), (some ⟨g1, 0, none⟩, 8, 8, nmB x.f2)] : List Pt) X1.heap.size (X1.alloc (.cells (([(some ⟨y, 0, none⟩, 4, 4, x.f0), (some ⟨y, 4, none⟩, 4, 4, x.f1), (some ⟨g1, 0, none⟩, 8, 8, nmB x.f2)] : List Pt).map ptv).toArray 39)) (heap_new rfl) (fun r hr => by
    have hr' : r < 3 := hr
    rcases (by omega : r = 0 ∨ r = 1 ∨ r = 2) with rfl | rfl | rfl
    · exact HB0.out _ (S1.out.trans (hBn.mono S1.out.size))
    · exact HB1.out _ (S1.out.trans (hBn.mono S1.out.size))
    · exact R2.out _ hBn
  ) (fun r hr => by
    have hr' : r < 3 := hr
    rcases (by omega : r = 0 ∨ r = 1 ∨ r = 2) with rfl | rfl | rfl
    all_goals exact ⟨Nat.le_of_ble_eq_true rfl, Nat.le_of_ble_eq_true rfl⟩) (Nat.le_of_ble_eq_true rfl) (Nat.le_of_ble_eq_true rfl)
  have HLA := hid hla
  have HBN := hid hBn
  clear hla hBn
  refine wpAnyH_ready (rs := [7]) (by kernel_rfl) (by simp) ?_
  refine AllReadyH.cons rfl (fun K hK => ?_) AllReadyH.nil
  go_simp
  refine hK.out _ _ (S1.out.trans (HBN.out.mono S1.out.size)) (fun hHeld => ?_)
  clear hK K bs
  try simp only [Act.put, List.setIfInBounds_toArray, List.set_cons_zero, List.set_cons_succ, Array.toArray_toList, List.getElem_toArray, List.getElem_cons_zero, List.getElem_cons_succ]
  refine wpAnyH_ready (rs := [8]) (by kernel_rfl) (by simp) ?_
  refine AllReadyH.cons rfl (fun K hK => ?_) AllReadyH.nil
  go_simp
  refine (HLA.out).mono ?_
  rintro e Y ⟨v, rfl, ho, hbY⟩
  dsimp only
  refine hK.out _ _ (S1.out.trans ((HBN.out.mono S1.out.size).trans (hbY.mono (by have := S1.out.size; have := HBN.out.size; omega)))) (fun hHeld => ?_)
  clear hK K
  try simp only [Act.put, List.setIfInBounds_toArray, List.set_cons_zero, List.set_cons_succ, Array.toArray_toList, List.getElem_toArray, List.getElem_cons_zero, List.getElem_cons_succ]
  refine tk 9 (v := ?v7) ?y7 hHeld ?r7
  case y7 => intro w hSw; go_simp; try with_reducible rfl
  try simp only [Act.put, List.setIfInBounds_toArray, List.set_cons_zero, List.set_cons_succ, Array.toArray_toList, List.getElem_toArray, List.getElem_cons_zero, List.getElem_cons_succ]
  refine wpAnyH_done (by kernel_rfl) ?_ _
  refine NoPanic.normal ?_
  go_wp2
  go_ret
  have e0 := EY.out
  have e1 := HB0w.out.size
  have e2 := S1.out.size
  have e3 := HBN.out.size
  exact ⟨v, rfl, (ho.mono (by omega) : _), HB0w.out.trans ((S1.out.mono (by omega)).trans ((HBN.out.mono (by omega)).trans (hbY.mono (by omega))))⟩

end Go.Proofs.Ytehpfemlcjcabaa

namespace Go.Proofs.Ytehpfemlcjcabaa

open Go.RowKit

set_option linter.unusedVariables false

set_option linter.unusedSimpArgs false

attribute [local go_sem ↓] sv24_eq lv24_eq ix22_eq slr_eq bd27_eq bs22_eq sv8_eq mkI_eq ixI_eq ixP_eq bsP_eq lvCheckpoint_eq lvHeader_eq

set_option maxRecDepth 20000 in
set_option maxHeartbeats 2000000 in
theorem encHeader_any (x : VHeader) (w : World) (hx : OkHeader x) :
    Calls Try.prog 25 #[.agg (cel (sHeader x))] w fun e w' => ∃ v, e = .returned v ∧ w'.ownsRow w.heap.size 5 1 v 112 (bl (ct7 (eHeader x)) 112) ∧ Below w.heap.size w w' := by
  have HX := hid hx
  obtain ⟨W0, hW0⟩ : ∃ W, w.alloc (.cells (cel (sHeader x)) 30) = W := ⟨_, rfl⟩
  have hB0 : Below w.heap.size w W0 := by rw [← hW0]; exact (Below.refl _ _).alloc (Nat.le_refl _) _
  have r0 : W0.heap[w.heap.size]? = some (.cells (cel (sHeader x)) 30) := by rw [← hW0]; exact heap_new rfl
  have z0 : w.heap.size < W0.heap.size := by rw [← hW0]; simp
  obtain ⟨y, ey⟩ : ∃ y, w.heap.size = y := ⟨_, rfl⟩
  have hry : ∀ X, Below W0.heap.size W0 X → X.heap[y]? = some (.cells (cel (sHeader x)) 30) := fun X h => by rw [← ey]; exact (h.block _ z0).trans r0
  have HL0 : Hid (∀ X, Below W0.heap.size W0 X → X.cell? ⟨y, 0, none⟩ = some (.int .u64 x.f0)) := fun X h => seg_nu (hry X h) 0 x.f0 rfl 0 rfl
  have HL1 : Hid (∀ X, Below W0.heap.size W0 X → X.cell? ⟨y, 1, none⟩ = some (.int .u64 x.f1)) := fun X h => seg_nu (hry X h) 1 x.f1 rfl 1 rfl
  have HB2 : Hid (∀ X, Below W0.heap.size W0 X → Bys X (some ⟨y, 2, none⟩) 32 32 x.f2) := fun X h => seg_bys (hry X h) 2 32 x.f2 rfl 2 rfl (by omega)
  have HB3 : Hid (∀ X, Below W0.heap.size W0 X → Bys X (some ⟨y, 34, none⟩) 32 32 x.f3) := fun X h => seg_bys (hry X h) 3 32 x.f3 rfl 34 rfl (by omega)
  have HB4 : Hid (∀ X, Below W0.heap.size W0 X → Bys X (some ⟨y, 66, none⟩) 32 32 x.f4) := fun X h => seg_bys (hry X h) 4 32 x.f4 rfl 66 rfl (by omega)
  have hdr : Below W0.heap.size W0 W0.drew := (Below.refl _ _).drew
  have S0 := hid hdr
  have HB0w := hid hB0
  have EY := hid ey
  clear hdr hB0 r0 hry hx
  go_enter Try.func25, Try.ntmps25
  go_upto_region 1 with fail
  clear hW0 ey z0
  refine wp_region_noPanic ?_
  refine wp_region_held_drew (S := fun X => Below W0.heap.size W0 X) (by kernel_rfl) (S0.out) (fun hHeld => ?_)
  refine tk 0 (v := ?v48) ?y48 hHeld ?r48
  case y48 => intro w hSw; go_simp; try with_reducible rfl
  refine tk 1 (v := ?v49) ?y49 hHeld ?r49
  case y49 => intro w hSw; have ld := HL0.out _ hSw; go_simp; try with_reducible rfl
  refine tk 3 (v := ?v50) ?y50 hHeld ?r50
  case y50 => intro w hSw; go_simp; try with_reducible rfl
  refine tk 4 (v := ?v51) ?y51 hHeld ?r51
  case y51 => intro w hSw; have ld := HL1.out _ hSw; go_simp; try with_reducible rfl
  refine tk 6 (v := ?v52) ?y52 hHeld ?r52
  case y52 => intro w hSw; go_simp; try with_reducible rfl
  refine tk 7 (v := ?v53) ?y53 hHeld ?r53
  case y53 => intro w hSw; go_simp; try with_reducible rfl
  refine tk 8 (v := ?v54) ?y54 hHeld ?r54
  case y54 => intro w hSw; go_simp; try with_reducible rfl
  refine tk 9 (v := ?v55) ?y55 hHeld ?r55
  case y55 => intro w hSw; go_simp; try with_reducible rfl
  refine tk 10 (v := ?v56) ?y56 hHeld ?r56
  case y56 => intro w hSw; go_simp; try with_reducible rfl
  refine tk 11 (v := ?v57) ?y57 hHeld ?r57
  case y57 => intro w hSw; go_simp; try with_reducible rfl
  try simp only [Act.put, List.setIfInBounds_toArray, List.set_cons_zero, List.set_cons_succ, Array.toArray_toList, List.getElem_toArray, List.getElem_cons_zero, List.getElem_cons_succ]
  refine wpAnyH_ready (rs := [2]) (by kernel_rfl) (by simp) ?_
  refine AllReadyH.cons rfl (fun K hK => ?_) AllReadyH.nil
  go_simp
  refine (nbytes_any x.f0 _ HX.out.1.1 HX.out.1.2).mono ?_
  rintro e X1 ⟨g1, rfl, hb1, hg1, hr1⟩
  dsimp only
  have S1 := hid (S0.out.trans (hb1.mono S0.out.size))
  have R0 := hid (show ∀ X, Below X1.heap.size X1 X → Bys X (some ⟨g1, 0, none⟩) 8 8 (nmB x.f0) from fun X h => (bys_new hr1 (by omega)).below h)
  clear hb1 hr1 hg1
  refine hK.out _ _ (S1.out) (fun hHeld => ?_)
  clear hK K
  try simp only [Act.put, List.setIfInBounds_toArray, List.set_cons_zero, List.set_cons_succ, Array.toArray_toList, List.getElem_toArray, List.getElem_cons_zero, List.getElem_cons_succ]
  refine wpAnyH_ready (rs := [5]) (by kernel_rfl) (by simp) ?_
  refine AllReadyH.cons rfl (fun K hK => ?_) AllReadyH.nil
  go_simp
  refine (nbytes_any x.f1 _ HX.out.2.1.1 HX.out.2.1.2).mono ?_
  rintro e X2 ⟨g2, rfl, hb2, hg2, hr2⟩
  dsimp only
  have K1 := hid (show Below X1.heap.size X1 X2 from hb2)
  have S2 := hid (S1.out.trans (hb2.mono S1.out.size))
  have R1 := hid (show ∀ X, Below X2.heap.size X2 X → Bys X (some ⟨g2, 0, none⟩) 8 8 (nmB x.f1) from fun X h => (bys_new hr2 (by omega)).below h)
  clear hb2 hr2 hg2
  refine hK.out _ _ (S2.out) (fun hHeld => ?_)
  clear hK K
  try simp only [Act.put, List.setIfInBounds_toArray, List.set_cons_zero, List.set_cons_succ, Array.toArray_toList, List.getElem_toArray, List.getElem_cons_zero, List.getElem_cons_succ]
  have bs : (bsP 5 #[(0, Value.slice (some ⟨g1, 0, none⟩) 8 8), (1, Value.slice (some ⟨g2, 0, none⟩) 8 8), (2, Value.slice (some ⟨y, 2, none⟩) 32 32), (3, Value.slice (some ⟨y, 34, none⟩) 32 32), (4, Value.slice (some ⟨y, 66, none⟩) 32 32)]).run Try.prog X2 = .ok (.slice (some ⟨X2.heap.size, 0, none⟩) 5 5) (X2.alloc (.cells (([(some ⟨g1, 0, none⟩, 8, 8, nmB x.f0), (some ⟨g2, 0, none⟩, 8, 8, nmB x.f1), (some ⟨y, 2, none⟩, 32, 32, x.f2), (some ⟨y, 34, none⟩, 32, 32, x.f3), (some ⟨y, 66, none⟩, 32, 32, x.f4)] : List Pt).map ptv).toArray 39)) := bsP_5 X2 (some ⟨g1, 0, none⟩, 8, 8, nmB x.f0) (some ⟨g2, 0, none⟩, 8, 8, nmB x.f1) (some ⟨y, 2, none⟩, 32, 32, x.f2) (some ⟨y, 34, none⟩, 32, 32, x.f3) (some ⟨y, 66, none⟩, 32, 32, x.f4)
  have hBn : Below X2.heap.size X2 (X2.alloc (.cells (([(some ⟨g1, 0, none⟩, 8, 8, nmB x.f0), (some ⟨g2, 0, none⟩, 8, 8, nmB x.f1), (some ⟨y, 2, none⟩, 32, 32, x.f2), (some ⟨y, 34, none⟩, 32, 32, x.f3), (some ⟨y, 66, none⟩, 32, 32, x.f4)] : List Pt).map ptv).toArray 39)) := (Below.refl _ _).alloc (Nat.le_refl _) _
  have hla := lay7 ([(some ⟨g1, 0, none⟩, 8, 8, nmB x.f0), (some ⟨g2, 0, none⟩, 8, 8, nmB x.f1), (some ⟨y, 2, none⟩, 32, 32, x.f2), (some ⟨y, 34, none⟩, 32, 32, x.f3), (some ⟨y, 66, none⟩, 32, 32, x.f4)] : List Pt) X2.heap.size (X2.alloc (.cells (([(some ⟨g1, 0, none⟩, 8, 8, nmB x.f0), (some ⟨g2, 0, none⟩, 8, 8, nmB x.f1), (some ⟨y, 2, none⟩, 32, 32, x.f2), (some ⟨y, 34, none⟩, 32, 32, x.f3), (some ⟨y, 66, none⟩, 32, 32, x.f4)] : List Pt).map ptv).toArray 39)) (heap_new rfl) (fun r hr => by
    have hr' : r < 5 := hr
    rcases (by omega : r = 0 ∨ r = 1 ∨ r = 2 ∨ r = 3 ∨ r = 4) with rfl | rfl | rfl | rfl | rfl
    · exact R0.out _ (K1.out.trans (hBn.mono K1.out.size))
    · exact R1.out _ hBn
    · exact HB2.out _ (S2.out.trans (hBn.mono S2.out.size))
    · exact HB3.out _ (S2.out.trans (hBn.mono S2.out.size))
    · exact HB4.out _ (S2.out.trans (hBn.mono S2.out.size))
  ) (fun r hr => by
    have hr' : r < 5 := hr
    rcases (by omega : r = 0 ∨ r = 1 ∨ r = 2 ∨ r = 3 ∨ r = 4) with rfl | rfl | rfl | rfl | rfl
    all_goals exact ⟨Nat.le_of_ble_eq_true rfl, Nat.le_of_ble_eq_true rfl⟩) (Nat.le_of_ble_eq_true rfl) (Nat.le_of_ble_eq_true rfl)
  have HLA := hid hla
  have HBN := hid hBn
  clear hla hBn
  refine wpAnyH_ready (rs := [12]) (by kernel_rfl) (by simp) ?_
  refine AllReadyH.cons rfl (fun K hK => ?_) AllReadyH.nil
  go_simp
  refine hK.out _ _ (S2.out.trans (HBN.out.mono S2.out.size)) (fun hHeld => ?_)
  clear hK K bs
  try simp only [Act.put, List.setIfInBounds_toArray, List.set_cons_zero, List.set_cons_succ, Array.toArray_toList, List.getElem_toArray, List.getElem_cons_zero, List.getElem_cons_succ]
  refine wpAnyH_ready (rs := [13]) (by kernel_rfl) (by simp) ?_
  refine AllReadyH.cons rfl (fun K hK => ?_) AllReadyH.nil
  go_simp
  refine (HLA.out).mono ?_
  rintro e Y ⟨v, rfl, ho, hbY⟩
  dsimp only
  refine hK.out _ _ (S2.out.trans ((HBN.out.mono S2.out.size).trans (hbY.mono (by have := S2.out.size; have := HBN.out.size; omega)))) (fun hHeld => ?_)
  clear hK K
  try simp only [Act.put, List.setIfInBounds_toArray, List.set_cons_zero, List.set_cons_succ, Array.toArray_toList, List.getElem_toArray, List.getElem_cons_zero, List.getElem_cons_succ]
  refine tk 14 (v := ?v58) ?y58 hHeld ?r58
  case y58 => intro w hSw; go_simp; try with_reducible rfl
  try simp only [Act.put, List.setIfInBounds_toArray, List.set_cons_zero, List.set_cons_succ, Array.toArray_toList, List.getElem_toArray, List.getElem_cons_zero, List.getElem_cons_succ]
  refine wpAnyH_done (by kernel_rfl) ?_ _
  refine NoPanic.normal ?_
  go_wp2
  go_ret
  have e0 := EY.out
  have e1 := HB0w.out.size
  have e2 := S2.out.size
  have e3 := HBN.out.size
  exact ⟨v, rfl, (ho.mono (by omega) : _), HB0w.out.trans ((S2.out.mono (by omega)).trans ((HBN.out.mono (by omega)).trans (hbY.mono (by omega))))⟩

end Go.Proofs.Ytehpfemlcjcabaa

namespace Go.Proofs.Ytehpfemlcjcabaa

open Go.RowKit

set_option linter.unusedVariables false

set_option linter.unusedSimpArgs false

attribute [local go_sem ↓] sv24_eq lv24_eq ix22_eq slr_eq bd27_eq bs22_eq sv8_eq mkI_eq ixI_eq ixP_eq bsP_eq lvCheckpoint_eq lvHeader_eq

set_option maxRecDepth 20000 in
set_option maxHeartbeats 2000000 in
theorem encEth1_any (x : VEth1) (w : World) (hx : OkEth1 x) :
    Calls Try.prog 27 #[.agg (cel (sEth1 x))] w fun e w' => ∃ v, e = .returned v ∧ w'.ownsRow w.heap.size 5 1 v 72 (bl (ct7 (eEth1 x)) 72) ∧ Below w.heap.size w w' := by
  have HX := hid hx
  obtain ⟨W0, hW0⟩ : ∃ W, w.alloc (.cells (cel (sEth1 x)) 34) = W := ⟨_, rfl⟩
  have hB0 : Below w.heap.size w W0 := by rw [← hW0]; exact (Below.refl _ _).alloc (Nat.le_refl _) _
  have r0 : W0.heap[w.heap.size]? = some (.cells (cel (sEth1 x)) 34) := by rw [← hW0]; exact heap_new rfl
  have z0 : w.heap.size < W0.heap.size := by rw [← hW0]; simp
  obtain ⟨y, ey⟩ : ∃ y, w.heap.size = y := ⟨_, rfl⟩
  have hry : ∀ X, Below W0.heap.size W0 X → X.heap[y]? = some (.cells (cel (sEth1 x)) 34) := fun X h => by rw [← ey]; exact (h.block _ z0).trans r0
  have HB0 : Hid (∀ X, Below W0.heap.size W0 X → Bys X (some ⟨y, 0, none⟩) 32 32 x.f0) := fun X h => seg_bys (hry X h) 0 32 x.f0 rfl 0 rfl (by omega)
  have HL1 : Hid (∀ X, Below W0.heap.size W0 X → X.cell? ⟨y, 32, none⟩ = some (.int .u64 x.f1)) := fun X h => seg_nu (hry X h) 1 x.f1 rfl 32 rfl
  have HB2 : Hid (∀ X, Below W0.heap.size W0 X → Bys X (some ⟨y, 33, none⟩) 32 32 x.f2) := fun X h => seg_bys (hry X h) 2 32 x.f2 rfl 33 rfl (by omega)
  have hdr : Below W0.heap.size W0 W0.drew := (Below.refl _ _).drew
  have S0 := hid hdr
  have HB0w := hid hB0
  have EY := hid ey
  clear hdr hB0 r0 hry hx
  go_enter Try.func27, Try.ntmps27
  go_upto_region 1 with fail
  clear hW0 ey z0
  refine wp_region_noPanic ?_
  refine wp_region_held_drew (S := fun X => Below W0.heap.size W0 X) (by kernel_rfl) (S0.out) (fun hHeld => ?_)
  refine tk 0 (v := ?v41) ?y41 hHeld ?r41
  case y41 => intro w hSw; go_simp; try with_reducible rfl
  refine tk 1 (v := ?v42) ?y42 hHeld ?r42
  case y42 => intro w hSw; go_simp; try with_reducible rfl
  refine tk 2 (v := ?v43) ?y43 hHeld ?r43
  case y43 => intro w hSw; go_simp; try with_reducible rfl
  refine tk 3 (v := ?v44) ?y44 hHeld ?r44
  case y44 => intro w hSw; have ld := HL1.out _ hSw; go_simp; try with_reducible rfl
  refine tk 5 (v := ?v45) ?y45 hHeld ?r45
  case y45 => intro w hSw; go_simp; try with_reducible rfl
  refine tk 6 (v := ?v46) ?y46 hHeld ?r46
  case y46 => intro w hSw; go_simp; try with_reducible rfl
  try simp only [Act.put, List.setIfInBounds_toArray, List.set_cons_zero, List.set_cons_succ, Array.toArray_toList, List.getElem_toArray, List.getElem_cons_zero, List.getElem_cons_succ]
  refine wpAnyH_ready (rs := [4]) (by kernel_rfl) (by simp) ?_
  refine AllReadyH.cons rfl (fun K hK => ?_) AllReadyH.nil
  go_simp
  refine (nbytes_any x.f1 _ HX.out.2.1.1 HX.out.2.1.2).mono ?_
  rintro e X1 ⟨g1, rfl, hb1, hg1, hr1⟩
  dsimp only
  have S1 := hid (S0.out.trans (hb1.mono S0.out.size))
  have R1 := hid (show ∀ X, Below X1.heap.size X1 X → Bys X (some ⟨g1, 0, none⟩) 8 8 (nmB x.f1) from fun X h => (bys_new hr1 (by omega)).below h)
  clear hb1 hr1 hg1
  refine hK.out _ _ (S1.out) (fun hHeld => ?_)
  clear hK K
  try simp only [Act.put, List.setIfInBounds_toArray, List.set_cons_zero, List.set_cons_succ, Array.toArray_toList, List.getElem_toArray, List.getElem_cons_zero, List.getElem_cons_succ]
  have bs : (bsP 3 #[(0, Value.slice (some ⟨y, 0, none⟩) 32 32), (1, Value.slice (some ⟨g1, 0, none⟩) 8 8), (2, Value.slice (some ⟨y, 33, none⟩) 32 32)]).run Try.prog X1 = .ok (.slice (some ⟨X1.heap.size, 0, none⟩) 3 3) (X1.alloc (.cells (([(some ⟨y, 0, none⟩, 32, 32, x.f0), (some ⟨g1, 0, none⟩, 8, 8, nmB x.f1), (some ⟨y, 33, none⟩, 32, 32, x.f2)] : List Pt).map ptv).toArray 39)) := bsP_3 X1 (some ⟨y, 0, none⟩, 32, 32, x.f0) (some ⟨g1, 0, none⟩, 8, 8, nmB x.f1) (some ⟨y, 33, none⟩, 32, 32, x.f2)
  have hBn : Below X1.heap.size X1 (X1.alloc (.cells (([(some ⟨y, 0, none⟩, 32, 32, x.f0), (some ⟨g1, 0, none⟩, 8, 8, nmB x.f1), (some ⟨y, 33, none⟩, 32, 32, x.f2)] : List Pt).map ptv).toArray 39)) := (Below.refl _ _).alloc (Nat.le_refl _) _
  have hla := lay7 ([(some ⟨y, 0, none⟩, 32, 32, x.f0), (some ⟨g1, 0, none⟩, 8, 8, nmB x.f1), (some ⟨y, 33, none⟩, 32, 32, x.f2)] : List Pt) X1.heap.size (X1.alloc (.cells (([(some ⟨y, 0, none⟩, 32, 32, x.f0), (some ⟨g1, 0, none⟩, 8, 8, nmB x.f1), (some ⟨y, 33, none⟩, 32, 32, x.f2)] : List Pt).map ptv).toArray 39)) (heap_new rfl) (fun r hr => by
    have hr' : r < 3 := hr
    rcases (by omega : r = 0 ∨ r = 1 ∨ r = 2) with rfl | rfl | rfl
    · exact HB0.out _ (S1.out.trans (hBn.mono S1.out.size))
    · exact R1.out _ hBn
    · exact HB2.out _ (S1.out.trans (hBn.mono S1.out.size))
  ) (fun r hr => by
    have hr' : r < 3 := hr
    rcases (by omega : r = 0 ∨ r = 1 ∨ r = 2) with rfl | rfl | rfl
    all_goals exact ⟨Nat.le_of_ble_eq_true rfl, Nat.le_of_ble_eq_true rfl⟩) (Nat.le_of_ble_eq_true rfl) (Nat.le_of_ble_eq_true rfl)
  have HLA := hid hla
  have HBN := hid hBn
  clear hla hBn
  refine wpAnyH_ready (rs := [7]) (by kernel_rfl) (by simp) ?_
  refine AllReadyH.cons rfl (fun K hK => ?_) AllReadyH.nil
  go_simp
  refine hK.out _ _ (S1.out.trans (HBN.out.mono S1.out.size)) (fun hHeld => ?_)
  clear hK K bs
  try simp only [Act.put, List.setIfInBounds_toArray, List.set_cons_zero, List.set_cons_succ, Array.toArray_toList, List.getElem_toArray, List.getElem_cons_zero, List.getElem_cons_succ]
  refine wpAnyH_ready (rs := [8]) (by kernel_rfl) (by simp) ?_
  refine AllReadyH.cons rfl (fun K hK => ?_) AllReadyH.nil
  go_simp
  refine (HLA.out).mono ?_
  rintro e Y ⟨v, rfl, ho, hbY⟩
  dsimp only
  refine hK.out _ _ (S1.out.trans ((HBN.out.mono S1.out.size).trans (hbY.mono (by have := S1.out.size; have := HBN.out.size; omega)))) (fun hHeld => ?_)
  clear hK K
  try simp only [Act.put, List.setIfInBounds_toArray, List.set_cons_zero, List.set_cons_succ, Array.toArray_toList, List.getElem_toArray, List.getElem_cons_zero, List.getElem_cons_succ]
  refine tk 9 (v := ?v47) ?y47 hHeld ?r47
  case y47 => intro w hSw; go_simp; try with_reducible rfl
  try simp only [Act.put, List.setIfInBounds_toArray, List.set_cons_zero, List.set_cons_succ, Array.toArray_toList, List.getElem_toArray, List.getElem_cons_zero, List.getElem_cons_succ]
  refine wpAnyH_done (by kernel_rfl) ?_ _
  refine NoPanic.normal ?_
  go_wp2
  go_ret
  have e0 := EY.out
  have e1 := HB0w.out.size
  have e2 := S1.out.size
  have e3 := HBN.out.size
  exact ⟨v, rfl, (ho.mono (by omega) : _), HB0w.out.trans ((S1.out.mono (by omega)).trans ((HBN.out.mono (by omega)).trans (hbY.mono (by omega))))⟩

end Go.Proofs.Ytehpfemlcjcabaa

namespace Go.Proofs.Ytehpfemlcjcabaa

open Go.RowKit

set_option linter.unusedVariables false

set_option linter.unusedSimpArgs false

attribute [local go_sem ↓] sv24_eq lv24_eq ix22_eq slr_eq bd27_eq bs22_eq sv8_eq mkI_eq ixI_eq ixP_eq bsP_eq lvCheckpoint_eq lvHeader_eq

set_option maxRecDepth 20000 in
set_option maxHeartbeats 2000000 in
theorem encValidator_any (x : VValidator) (w : World) (hx : OkValidator x) :
    Calls Try.prog 30 #[.agg (cel (sValidator x))] w fun e w' => ∃ v, e = .returned v ∧ w'.ownsRow w.heap.size 5 1 v 121 (bl (ct7 (eValidator x)) 121) ∧ Below w.heap.size w w' := by
  have HX := hid hx
  obtain ⟨W0, hW0⟩ : ∃ W, w.alloc (.cells (cel (sValidator x)) 64) = W := ⟨_, rfl⟩
  have hB0 : Below w.heap.size w W0 := by rw [← hW0]; exact (Below.refl _ _).alloc (Nat.le_refl _) _
  have r0 : W0.heap[w.heap.size]? = some (.cells (cel (sValidator x)) 64) := by rw [← hW0]; exact heap_new rfl
  have z0 : w.heap.size < W0.heap.size := by rw [← hW0]; simp
  obtain ⟨y, ey⟩ : ∃ y, w.heap.size = y := ⟨_, rfl⟩
  have hry : ∀ X, Below W0.heap.size W0 X → X.heap[y]? = some (.cells (cel (sValidator x)) 64) := fun X h => by rw [← ey]; exact (h.block _ z0).trans r0
  have HB0 : Hid (∀ X, Below W0.heap.size W0 X → Bys X (some ⟨y, 0, none⟩) 48 48 x.f0) := fun X h => seg_bys (hry X h) 0 48 x.f0 rfl 0 rfl (by omega)
  have HB1 : Hid (∀ X, Below W0.heap.size W0 X → Bys X (some ⟨y, 48, none⟩) 32 32 x.f1) := fun X h => seg_bys (hry X h) 1 32 x.f1 rfl 48 rfl (by omega)
  have HL2 : Hid (∀ X, Below W0.heap.size W0 X → X.cell? ⟨y, 80, none⟩ = some (.int .u64 x.f2)) := fun X h => seg_nu (hry X h) 2 x.f2 rfl 80 rfl
  have HL3 : Hid (∀ X, Below W0.heap.size W0 X → X.cell? ⟨y, 81, none⟩ = some (.bool x.f3)) := fun X h => seg_bo (hry X h) 3 x.f3 rfl 81 rfl
  have HL4 : Hid (∀ X, Below W0.heap.size W0 X → X.cell? ⟨y, 82, none⟩ = some (.int .u64 x.f4)) := fun X h => seg_nu (hry X h) 4 x.f4 rfl 82 rfl
  have HL5 : Hid (∀ X, Below W0.heap.size W0 X → X.cell? ⟨y, 83, none⟩ = some (.int .u64 x.f5)) := fun X h => seg_nu (hry X h) 5 x.f5 rfl 83 rfl
  have HL6 : Hid (∀ X, Below W0.heap.size W0 X → X.cell? ⟨y, 84, none⟩ = some (.int .u64 x.f6)) := fun X h => seg_nu (hry X h) 6 x.f6 rfl 84 rfl
  have HL7 : Hid (∀ X, Below W0.heap.size W0 X → X.cell? ⟨y, 85, none⟩ = some (.int .u64 x.f7)) := fun X h => seg_nu (hry X h) 7 x.f7 rfl 85 rfl
  have hdr : Below W0.heap.size W0 W0.drew := (Below.refl _ _).drew
  have S0 := hid hdr
  have HB0w := hid hB0
  have EY := hid ey
  clear hdr hB0 r0 hry hx
  go_enter Try.func30, Try.ntmps30
  go_upto_region 1 with fail
  clear hW0 ey z0
  refine wp_region_noPanic ?_
  refine wp_region_held_drew (S := fun X => Below W0.heap.size W0 X) (by kernel_rfl) (S0.out) (fun hHeld => ?_)
  refine tk 0 (v := ?v13) ?y13 hHeld ?r13
  case y13 => intro w hSw; go_simp; try with_reducible rfl
  refine tk 1 (v := ?v14) ?y14 hHeld ?r14
  case y14 => intro w hSw; go_simp; try with_reducible rfl
  refine tk 2 (v := ?v15) ?y15 hHeld ?r15
  case y15 => intro w hSw; go_simp; try with_reducible rfl
  refine tk 3 (v := ?v16) ?y16 hHeld ?r16
  case y16 => intro w hSw; go_simp; try with_reducible rfl
  refine tk 4 (v := ?v17) ?y17 hHeld ?r17
  case y17 => intro w hSw; go_simp; try with_reducible rfl
  refine tk 5 (v := ?v18) ?y18 hHeld ?r18
  case y18 => intro w hSw; have ld := HL2.out _ hSw; go_simp; try with_reducible rfl
  refine tk 7 (v := ?v19) ?y19 hHeld ?r19
  case y19 => intro w hSw; go_simp; try with_reducible rfl
  refine tk 8 (v := ?v20) ?y20 hHeld ?r20
  case y20 => intro w hSw; have ld := HL3.out _ hSw; go_simp; try with_reducible rfl
  refine tk 10 (v := ?v21) ?y21 hHeld ?r21
  case y21 => intro w hSw; go_simp; try with_reducible rfl
  refine tk 11 (v := ?v22) ?y22 hHeld ?r22
  case y22 => intro w hSw; have ld := HL4.out _ hSw; go_simp; try with_reducible rfl
  refine tk 13 (v := ?v23) ?y23 hHeld ?r23
  case y23 => intro w hSw; go_simp; try with_reducible rfl
  refine tk 14 (v := ?v24) ?y24 hHeld ?r24
  case y24 => intro w hSw; have ld := HL5.out _ hSw; go_simp; try with_reducible rfl
  refine tk 16 (v := ?v25) ?y25 hHeld ?r25
  case y25 => intro w hSw; go_simp; try with_reducible rfl
  refine tk 17 (v := ?v26) ?y26 hHeld ?r26
  case y26 => intro w hSw; have ld := HL6.out _ hSw; go_simp; try with_reducible rfl
  refine tk 19 (v := ?v27) ?y27 hHeld ?r27
  case y27 => intro w hSw; go_simp; try with_reducible rfl
  refine tk 20 (v := ?v28) ?y28 hHeld ?r28
  case y28 => intro w hSw; have ld := HL7.out _ hSw; go_simp; try with_reducible rfl
  try simp only [Act.put, List.setIfInBounds_toArray, List.set_cons_zero, List.set_cons_succ, Array.toArray_toList, List.getElem_toArray, List.getElem_cons_zero, List.getElem_cons_succ]
  refine wpAnyH_ready (rs := [6]) (by kernel_rfl) (by simp) ?_
  refine AllReadyH.cons rfl (fun K hK => ?_) AllReadyH.nil
  go_simp
  refine (nbytes_any x.f2 _ HX.out.2.2.1.1 HX.out.2.2.1.2).mono ?_
  rintro e X1 ⟨g1, rfl, hb1, hg1, hr1⟩
  dsimp only
  have S1 := hid (S0.out.trans (hb1.mono S0.out.size))
  have R2 := hid (show ∀ X, Below X1.heap.size X1 X → Bys X (some ⟨g1, 0, none⟩) 8 8 (nmB x.f2) from fun X h => (bys_new hr1 (by omega)).below h)
  clear hb1 hr1 hg1
  refine hK.out _ _ (S1.out) (fun hHeld => ?_)
  clear hK K
  try simp only [Act.put, List.setIfInBounds_toArray, List.set_cons_zero, List.set_cons_succ, Array.toArray_toList, List.getElem_toArray, List.getElem_cons_zero, List.getElem_cons_succ]
  refine wpAnyH_ready (rs := [9]) (by kernel_rfl) (by simp) ?_
  refine AllReadyH.cons rfl (fun K hK => ?_) AllReadyH.nil
  go_simp
  refine (bbytes_any x.f3 _).mono ?_
  rintro e X2 ⟨g2, rfl, hb2, hr2⟩
  dsimp only
  have K1 := hid (show Below X1.heap.size X1 X2 from hb2)
  have S2 := hid (S1.out.trans (hb2.mono S1.out.size))
  have R3 := hid (show ∀ X, Below X2.heap.size X2 X → Bys X (some ⟨g2, 0, none⟩) 1 1 (bbB x.f3) from fun X h => hr2.below h)
  clear hb2 hr2
  refine hK.out _ _ (S2.out) (fun hHeld => ?_)
  clear hK K
  try simp only [Act.put, List.setIfInBounds_toArray, List.set_cons_zero, List.set_cons_succ, Array.toArray_toList, List.getElem_toArray, List.getElem_cons_zero, List.getElem_cons_succ]
  refine wpAnyH_ready (rs := [12]) (by kernel_rfl) (by simp) ?_
  refine AllReadyH.cons rfl (fun K hK => ?_) AllReadyH.nil
  go_simp
  refine (nbytes_any x.f4 _ HX.out.2.2.2.2.1.1 HX.out.2.2.2.2.1.2).mono ?_
  rintro e X3 ⟨g3, rfl, hb3, hg3, hr3⟩
  dsimp only
  replace K1 := hid (K1.out.trans (hb3.mono K1.out.size))
  have K2 := hid (show Below X2.heap.size X2 X3 from hb3)
  have S3 := hid (S2.out.trans (hb3.mono S2.out.size))
  have R4 := hid (show ∀ X, Below X3.heap.size X3 X → Bys X (some ⟨g3, 0, none⟩) 8 8 (nmB x.f4) from fun X h => (bys_new hr3 (by omega)).below h)
  clear hb3 hr3 hg3
  refine hK.out _ _ (S3.out) (fun hHeld => ?_)
  clear hK K
  try simp only [Act.put, List.setIfInBounds_toArray, List.set_cons_zero, List.set_cons_succ, Array.toArray_toList, List.getElem_toArray, List.getElem_cons_zero, List.getElem_cons_succ]
  refine wpAnyH_ready (rs := [15]) (by kernel_rfl) (by simp) ?_
  refine AllReadyH.cons rfl (fun K hK => ?_) AllReadyH.nil
  go_simp
  refine (nbytes_any x.f5 _ HX.out.2.2.2.2.2.1.1 HX.out.2.2.2.2.2.1.2).mono ?_
  rintro e X4 ⟨g4, rfl, hb4, hg4, hr4⟩
  dsimp only
  replace K1 := hid (K1.out.trans (hb4.mono K1.out.size))
  replace K2 := hid (K2.out.trans (hb4.mono K2.out.size))
  have K3 := hid (show Below X3.heap.size X3 X4 from hb4)
  have S4 := hid (S3.out.trans (hb4.mono S3.out.size))
  have R5 := hid (show ∀ X, Below X4.heap.size X4 X → Bys X (some ⟨g4, 0, none⟩) 8 8 (nmB x.f5) from fun X h => (bys_new hr4 (by omega)).below h)
  clear hb4 hr4 hg4
  refine hK.out _ _ (S4.out) (fun hHeld => ?_)
  clear hK K
  try simp only [Act.put, List.setIfInBounds_toArray, List.set_cons_zero, List.set_cons_succ, Array.toArray_toList, List.getElem_toArray, List.getElem_cons_zero, List.getElem_cons_succ]
  refine wpAnyH_ready (rs := [18]) (by kernel_rfl) (by simp) ?_
  refine AllReadyH.cons rfl (fun K hK => ?_) AllReadyH.nil
  go_simp
  refine (nbytes_any x.f6 _ HX.out.2.2.2.2.2.2.1.1 HX.out.2.2.2.2.2.2.1.2).mono ?_
  rintro e X5 ⟨g5, rfl, hb5, hg5, hr5⟩
  dsimp only
  replace K1 := hid (K1.out.trans (hb5.mono K1.out.size))
  replace K2 := hid (K2.out.trans (hb5.mono K2.out.size))
  replace K3 := hid (K3.out.trans (hb5.mono K3.out.size))
  have K4 := hid (show Below X4.heap.size X4 X5 from hb5)
  have S5 := hid (S4.out.trans (hb5.mono S4.out.size))
  have R6 := hid (show ∀ X, Below X5.heap.size X5 X → Bys X (some ⟨g5, 0, none⟩) 8 8 (nmB x.f6) from fun X h => (bys_new hr5 (by omega)).below h)
  clear hb5 hr5 hg5
  refine hK.out _ _ (S5.out) (fun hHeld => ?_)
  clear hK K
  try simp only [Act.put, List.setIfInBounds_toArray, List.set_cons_zero, List.set_cons_succ, Array.toArray_toList, List.getElem_toArray, List.getElem_cons_zero, List.getElem_cons_succ]
  refine wpAnyH_ready (rs := [21]) (by kernel_rfl) (by simp) ?_
  refine AllReadyH.cons rfl (fun K hK => ?_) AllReadyH.nil
  go_simp
  refine (nbytes_any x.f7 _ HX.out.2.2.2.2.2.2.2.1 HX.out.2.2.2.2.2.2.2.2).mono ?_
  rintro e X6 ⟨g6, rfl, hb6, hg6, hr6⟩
  dsimp only
  replace K1 := hid (K1.out.trans (hb6.mono K1.out.size))
  replace K2 := hid (K2.out.trans (hb6.mono K2.out.size))
  replace K3 := hid (K3.out.trans (hb6.mono K3.out.size))
  replace K4 := hid (K4.out.trans (hb6.mono K4.out.size))
  have K5 := hid (show Below X5.heap.size X5 X6 from hb6)
  have S6 := hid (S5.out.trans (hb6.mono S5.out.size))
  have R7 := hid (show ∀ X, Below X6.heap.size X6 X → Bys X (some ⟨g6, 0, none⟩) 8 8 (nmB x.f7) from fun X h => (bys_new hr6 (by omega)).below h)
  clear hb6 hr6 hg6
  refine hK.out _ _ (S6.out) (fun hHeld => ?_)
  clear hK K
  try simp only [Act.put, List.setIfInBounds_toArray, List.set_cons_zero, List.set_cons_succ, Array.toArray_toList, List.getElem_toArray, List.getElem_cons_zero, List.getElem_cons_succ]
  have bs : (bsP 8 #[(0, Value.slice (some ⟨y, 0, none⟩) 48 48), (1, Value.slice (some ⟨y, 48, none⟩) 32 32), (2, Value.slice (some ⟨g1, 0, none⟩) 8 8), (3, Value.slice (some ⟨g2, 0, none⟩) 1 1), (4, Value.slice (some ⟨g3, 0, none⟩) 8 8), (5, Value.slice (some ⟨g4, 0, none⟩) 8 8), (6, Value.slice (some ⟨g5, 0, none⟩) 8 8), (7, Value.slice (some ⟨g6, 0, none⟩) 8 8)]).run Try.prog X6 = .ok (.slice (some ⟨X6.heap.size, 0, none⟩) 8 8) (X6.alloc (.cells (([(some ⟨y, 0, none⟩, 48, 48, x.f0), (some ⟨y, 48, none⟩, 32, 32, x.f1), (some ⟨g1, 0, none⟩, 8, 8, nmB x.f2), (some ⟨g2, 0, none⟩, 1, 1, bbB x.f3), (some ⟨g3, 0, none⟩, 8, 8, nmB x.f4), (some ⟨g4, 0, none⟩, 8, 8, nmB x.f5), (some ⟨g5, 0, none⟩, 8, 8, nmB x.f6), (some ⟨g6, 0, none⟩, 8, 8, nmB x.f7)] : List Pt).map ptv).toArray 39)) := bsP_8 X6 (some ⟨y, 0, none⟩, 48, 48, x.f0) (some ⟨y, 48, none⟩, 32, 32, x.f1) (some ⟨g1, 0, none⟩, 8, 8, nmB x.f2) (some ⟨g2, 0, none⟩, 1, 1, bbB x.f3) (some ⟨g3, 0, none⟩, 8, 8, nmB x.f4) (some ⟨g4, 0, none⟩, 8, 8, nmB x.f5) (some ⟨g5, 0, none⟩, 8, 8, nmB x.f6) (some ⟨g6, 0, none⟩, 8, 8, nmB x.f7)
  have hBn : Below X6.heap.size X6 (X6.alloc (.cells (([(some ⟨y, 0, none⟩, 48, 48, x.f0), (some ⟨y, 48, none⟩, 32, 32, x.f1), (some ⟨g1, 0, none⟩, 8, 8, nmB x.f2), (some ⟨g2, 0, none⟩, 1, 1, bbB x.f3), (some ⟨g3, 0, none⟩, 8, 8, nmB x.f4), (some ⟨g4, 0, none⟩, 8, 8, nmB x.f5), (some ⟨g5, 0, none⟩, 8, 8, nmB x.f6), (some ⟨g6, 0, none⟩, 8, 8, nmB x.f7)] : List Pt).map ptv).toArray 39)) := (Below.refl _ _).alloc (Nat.le_refl _) _
  have hla := lay7 ([(some ⟨y, 0, none⟩, 48, 48, x.f0), (some ⟨y, 48, none⟩, 32, 32, x.f1), (some ⟨g1, 0, none⟩, 8, 8, nmB x.f2), (some ⟨g2, 0, none⟩, 1, 1, bbB x.f3), (some ⟨g3, 0, none⟩, 8, 8, nmB x.f4), (some ⟨g4, 0, none⟩, 8, 8, nmB x.f5), (some ⟨g5, 0, none⟩, 8, 8, nmB x.f6), (some ⟨g6, 0, none⟩, 8, 8, nmB x.f7)] : List Pt) X6.heap.size (X6.alloc (.cells (([(some ⟨y, 0, none⟩, 48, 48, x.f0), (some ⟨y, 48, none⟩, 32, 32, x.f1), (some ⟨g1, 0, none⟩, 8, 8, nmB x.f2), (some ⟨g2, 0, none⟩, 1, 1, bbB x.f3), (some ⟨g3, 0, none⟩, 8, 8, nmB x.f4), (some ⟨g4, 0, none⟩, 8, 8, nmB x.f5), (some ⟨g5, 0, none⟩, 8, 8, nmB x.f6), (some ⟨g6, 0, none⟩, 8, 8, nmB x.f7)] : List Pt).map ptv).toArray 39)) (heap_new rfl) (fun r hr => by
    have hr' : r < 8 := hr
    rcases (by omega : r = 0 ∨ r = 1 ∨ r = 2 ∨ r = 3 ∨ r = 4 ∨ r = 5 ∨ r = 6 ∨ r = 7) with rfl | rfl | rfl | rfl | rfl | rfl | rfl | rfl
    · exact HB0.out _ (S6.out.trans (hBn.mono S6.out.size))
    · exact HB1.out _ (S6.out.trans (hBn.mono S6.out.size))
    · exact R2.out _ (K1.out.trans (hBn.mono K1.out.size))
    · exact R3.out _ (K2.out.trans (hBn.mono K2.out.size))
    · exact R4.out _ (K3.out.trans (hBn.mono K3.out.size))
    · exact R5.out _ (K4.out.trans (hBn.mono K4.out.size))
    · exact R6.out _ (K5.out.trans (hBn.mono K5.out.size))
    · exact R7.out _ hBn
  ) (fun r hr => by
    have hr' : r < 8 := hr
    rcases (by omega : r = 0 ∨ r = 1 ∨ r = 2 ∨ r = 3 ∨ r = 4 ∨ r = 5 ∨ r = 6 ∨ r = 7) with rfl | rfl | rfl | rfl | rfl | rfl | rfl | rfl
    all_goals exact ⟨Nat.le_of_ble_eq_true rfl, Nat.le_of_ble_eq_true rfl⟩) (Nat.le_of_ble_eq_true rfl) (Nat.le_of_ble_eq_true rfl)
  have HLA := hid hla
  have HBN := hid hBn
  clear hla hBn
  refine wpAnyH_ready (rs := [22]) (by kernel_rfl) (by simp) ?_
  refine AllReadyH.cons rfl (fun K hK => ?_) AllReadyH.nil
  go_simp
  refine hK.out _ _ (S6.out.trans (HBN.out.mono S6.out.size)) (fun hHeld => ?_)
  clear hK K bs
  try simp only [Act.put, List.setIfInBounds_toArray, List.set_cons_zero, List.set_cons_succ, Array.toArray_toList, List.getElem_toArray, List.getElem_cons_zero, List.getElem_cons_succ]
  refine wpAnyH_ready (rs := [23]) (by kernel_rfl) (by simp) ?_
  refine AllReadyH.cons rfl (fun K hK => ?_) AllReadyH.nil
  go_simp
  refine (HLA.out).mono ?_
  rintro e Y ⟨v, rfl, ho, hbY⟩
  dsimp only
  refine hK.out _ _ (S6.out.trans ((HBN.out.mono S6.out.size).trans (hbY.mono (by have := S6.out.size; have := HBN.out.size; omega)))) (fun hHeld => ?_)
  clear hK K
  try simp only [Act.put, List.setIfInBounds_toArray, List.set_cons_zero, List.set_cons_succ, Array.toArray_toList, List.getElem_toArray, List.getElem_cons_zero, List.getElem_cons_succ]
  refine tk 24 (v := ?v29) ?y29 hHeld ?r29
  case y29 => intro w hSw; go_simp; try with_reducible rfl
  try simp only [Act.put, List.setIfInBounds_toArray, List.set_cons_zero, List.set_cons_succ, Array.toArray_toList, List.getElem_toArray, List.getElem_cons_zero, List.getElem_cons_succ]
  refine wpAnyH_done (by kernel_rfl) ?_ _
  refine NoPanic.normal ?_
  go_wp2
  go_ret
  have e0 := EY.out
  have e1 := HB0w.out.size
  have e2 := S6.out.size
  have e3 := HBN.out.size
  exact ⟨v, rfl, (ho.mono (by omega) : _), HB0w.out.trans ((S6.out.mono (by omega)).trans ((HBN.out.mono (by omega)).trans (hbY.mono (by omega))))⟩

end Go.Proofs.Ytehpfemlcjcabaa

namespace Go.Proofs.Ytehpfemlcjcabaa

open Go.RowKit

set_option linter.unusedVariables false

set_option linter.unusedSimpArgs false

attribute [local go_sem ↓] sv24_eq lv24_eq ix22_eq slr_eq bd27_eq bs22_eq sv8_eq mkI_eq ixI_eq ixP_eq bsP_eq lvCheckpoint_eq lvHeader_eq

set_option maxRecDepth 20000 in
set_option maxHeartbeats 2000000 in
theorem encCheckpoint_any (x : VCheckpoint) (w : World) (hx : OkCheckpoint x) :
    Calls Try.prog 33 #[.agg (cel (sCheckpoint x))] w fun e w' => ∃ v, e = .returned v ∧ w'.ownsRow w.heap.size 5 1 v 40 (bl (ct7 (eCheckpoint x)) 40) ∧ Below w.heap.size w w' := by
  have HX := hid hx
  obtain ⟨W0, hW0⟩ : ∃ W, w.alloc (.cells (cel (sCheckpoint x)) 42) = W := ⟨_, rfl⟩
  have hB0 : Below w.heap.size w W0 := by rw [← hW0]; exact (Below.refl _ _).alloc (Nat.le_refl _) _
  have r0 : W0.heap[w.heap.size]? = some (.cells (cel (sCheckpoint x)) 42) := by rw [← hW0]; exact heap_new rfl
  have z0 : w.heap.size < W0.heap.size := by rw [← hW0]; simp
  obtain ⟨y, ey⟩ : ∃ y, w.heap.size = y := ⟨_, rfl⟩
  have hry : ∀ X, Below W0.heap.size W0 X → X.heap[y]? = some (.cells (cel (sCheckpoint x)) 42) := fun X h => by rw [← ey]; exact (h.block _ z0).trans r0
  have HL0 : Hid (∀ X, Below W0.heap.size W0 X → X.cell? ⟨y, 0, none⟩ = some (.int .u64 x.f0)) := fun X h => seg_nu (hry X h) 0 x.f0 rfl 0 rfl
  have HB1 : Hid (∀ X, Below W0.heap.size W0 X → Bys X (some ⟨y, 1, none⟩) 32 32 x.f1) := fun X h => seg_bys (hry X h) 1 32 x.f1 rfl 1 rfl (by omega)
  have hdr : Below W0.heap.size W0 W0.drew := (Below.refl _ _).drew
  have S0 := hid hdr
  have HB0w := hid hB0
  have EY := hid ey
  clear hdr hB0 r0 hry hx
  go_enter Try.func33, Try.ntmps33
  go_upto_region 1 with fail
  clear hW0 ey z0
  refine wp_region_noPanic ?_
  refine wp_region_held_drew (S := fun X => Below W0.heap.size W0 X) (by kernel_rfl) (S0.out) (fun hHeld => ?_)
  refine tk 0 (v := ?v8) ?y8 hHeld ?r8
  case y8 => intro w hSw; go_simp; try with_reducible rfl
  refine tk 1 (v := ?v9) ?y9 hHeld ?r9
  case y9 => intro w hSw; have ld := HL0.out _ hSw; go_simp; try with_reducible rfl
  refine tk 3 (v := ?v10) ?y10 hHeld ?r10
  case y10 => intro w hSw; go_simp; try with_reducible rfl
  refine tk 4 (v := ?v11) ?y11 hHeld ?r11
  case y11 => intro w hSw; go_simp; try with_reducible rfl
  try simp only [Act.put, List.setIfInBounds_toArray, List.set_cons_zero, List.set_cons_succ, Array.toArray_toList, List.getElem_toArray, List.getElem_cons_zero, List.getElem_cons_succ]
  refine wpAnyH_ready (rs := [2]) (by kernel_rfl) (by simp) ?_
  refine AllReadyH.cons rfl (fun K hK => ?_) AllReadyH.nil
  go_simp
  refine (nbytes_any x.f0 _ HX.out.1.1 HX.out.1.2).mono ?_
  rintro e X1 ⟨g1, rfl, hb1, hg1, hr1⟩
  dsimp only
  have S1 := hid (S0.out.trans (hb1.mono S0.out.size))
  have R0 := hid (show ∀ X, Below X1.heap.size X1 X → Bys X (some ⟨g1, 0, none⟩) 8 8 (nmB x.f0) from fun X h => (bys_new hr1 (by omega)).below h)
  clear hb1 hr1 hg1
  refine hK.out _ _ (S1.out) (fun hHeld => ?_)
  clear hK K
  try simp only [Act.put, List.setIfInBounds_toArray, List.set_cons_zero, List.set_cons_succ, Array.toArray_toList, List.getElem_toArray, List.getElem_cons_zero, List.getElem_cons_succ]
  have bs : (bsP 2 #[(0, Value.slice (some ⟨g1, 0, none⟩) 8 8), (1, Value.slice (some ⟨y, 1, none⟩) 32 32)]).run Try.prog X1 = .ok (.slice (some ⟨X1.heap.size, 0, none⟩) 2 2) (X1.alloc (.cells (([(some ⟨g1, 0, none⟩, 8, 8, nmB x.f0), (some ⟨y, 1, none⟩, 32, 32, x.f1)] : List Pt).map ptv).toArray 39)) := bsP_2 X1 (some ⟨g1, 0, none⟩, 8, 8, nmB x.f0) (some ⟨y, 1, none⟩, 32, 32, x.f1)
  have hBn : Below X1.heap.size X1 (X1.alloc (.cells (([(some ⟨g1, 0, none⟩, 8, 8, nmB x.f0), (some ⟨y, 1, none⟩, 32, 32, x.f1)] : List Pt).map ptv).toArray 39)) := (Below.refl _ _).alloc (Nat.le_refl _) _
  have hla := lay7 ([(some ⟨g1, 0, none⟩, 8, 8, nmB x.f0), (some ⟨y, 1, none⟩, 32, 32, x.f1)] : List Pt) X1.heap.size (X1.alloc (.cells (([(some ⟨g1, 0, none⟩, 8, 8, nmB x.f0), (some ⟨y, 1, none⟩, 32, 32, x.f1)] : List Pt).map ptv).toArray 39)) (heap_new rfl) (fun r hr => by
    have hr' : r < 2 := hr
    rcases (by omega : r = 0 ∨ r = 1) with rfl | rfl
    · exact R0.out _ hBn
    · exact HB1.out _ (S1.out.trans (hBn.mono S1.out.size))
  ) (fun r hr => by
    have hr' : r < 2 := hr
    rcases (by omega : r = 0 ∨ r = 1) with rfl | rfl
    all_goals exact ⟨Nat.le_of_ble_eq_true rfl, Nat.le_of_ble_eq_true rfl⟩) (Nat.le_of_ble_eq_true rfl) (Nat.le_of_ble_eq_true rfl)
  have HLA := hid hla
  have HBN := hid hBn
  clear hla hBn
  refine wpAnyH_ready (rs := [5]) (by kernel_rfl) (by simp) ?_
  refine AllReadyH.cons rfl (fun K hK => ?_) AllReadyH.nil
  go_simp
  refine hK.out _ _ (S1.out.trans (HBN.out.mono S1.out.size)) (fun hHeld => ?_)
  clear hK K bs
  try simp only [Act.put, List.setIfInBounds_toArray, List.set_cons_zero, List.set_cons_succ, Array.toArray_toList, List.getElem_toArray, List.getElem_cons_zero, List.getElem_cons_succ]
  refine wpAnyH_ready (rs := [6]) (by kernel_rfl) (by simp) ?_
  refine AllReadyH.cons rfl (fun K hK => ?_) AllReadyH.nil
  go_simp
  refine (HLA.out).mono ?_
  rintro e Y ⟨v, rfl, ho, hbY⟩
  dsimp only
  refine hK.out _ _ (S1.out.trans ((HBN.out.mono S1.out.size).trans (hbY.mono (by have := S1.out.size; have := HBN.out.size; omega)))) (fun hHeld => ?_)
  clear hK K
  try simp only [Act.put, List.setIfInBounds_toArray, List.set_cons_zero, List.set_cons_succ, Array.toArray_toList, List.getElem_toArray, List.getElem_cons_zero, List.getElem_cons_succ]
  refine tk 7 (v := ?v12) ?y12 hHeld ?r12
  case y12 => intro w hSw; go_simp; try with_reducible rfl
  try simp only [Act.put, List.setIfInBounds_toArray, List.set_cons_zero, List.set_cons_succ, Array.toArray_toList, List.getElem_toArray, List.getElem_cons_zero, List.getElem_cons_succ]
  refine wpAnyH_done (by kernel_rfl) ?_ _
  refine NoPanic.normal ?_
  go_wp2
  go_ret
  have e0 := EY.out
  have e1 := HB0w.out.size
  have e2 := S1.out.size
  have e3 := HBN.out.size
  exact ⟨v, rfl, (ho.mono (by omega) : _), HB0w.out.trans ((S1.out.mono (by omega)).trans ((HBN.out.mono (by omega)).trans (hbY.mono (by omega))))⟩

end Go.Proofs.Ytehpfemlcjcabaa
