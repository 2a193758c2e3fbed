/-
  What the reference's Enc, Root and Read answer.
-/

import Derived.Test.YtficlakgameglaaDoorQA
import Derived.Test.YtficlakgameglaaDoorCoB
import Derived.Test.YtficlakgameglaaDoorQE
namespace Go.Proofs.YtficlakgameglaaDoor

open Go.RowKit

set_option linter.unusedVariables false

set_option linter.unusedSimpArgs false

attribute [local go_sem ↓] sv24_eq lv24_eq ix22_eq slr_eq bd27_eq bs22_eq bsP_eq bsI_eq lvCheckpoint_eq

set_option maxRecDepth 20000 in
set_option maxHeartbeats 2000000 in
theorem rencHeader_any (x : VHeader) (w : World) (hx : OkHeader x) :
    Calls Tryd.prog 48 #[.agg (cel (sHeader x))] w fun e w' => ∃ v, e = .returned (.tuple #[v, .int .i64 0]) ∧ w'.ownsRow w.heap.size 5 1 v 112 (bl (ct7 (eHeader x)) 112) ∧ Below w.heap.size w w' := by
  have HX := hid hx
  obtain ⟨W0, hW0⟩ : ∃ W, w.alloc (.cells (cel (sHeader x)) 30) = W := ⟨_, rfl⟩
  have hB0 : Below w.heap.size w W0 := by rw [← hW0]; exact (Below.refl _ _).alloc (Nat.le_refl _) _
  have r0 : W0.heap[w.heap.size]? = some (.cells (cel (sHeader x)) 30) := by rw [← hW0]; exact heap_new rfl
  have z0 : w.heap.size < W0.heap.size := by rw [← hW0]; simp
  obtain ⟨y, ey⟩ : ∃ y, w.heap.size = y := ⟨_, rfl⟩
  have hry : ∀ X, Below W0.heap.size W0 X → X.heap[y]? = some (.cells (cel (sHeader x)) 30) := fun X h => by rw [← ey]; exact (h.block _ z0).trans r0
  have HL0 : Hid (∀ X, Below W0.heap.size W0 X → X.cell? ⟨y, 0, none⟩ = some (.int .u64 x.f0)) := fun X h => seg_nu (hry X h) 0 x.f0 rfl 0 rfl
  have HL1 : Hid (∀ X, Below W0.heap.size W0 X → X.cell? ⟨y, 1, none⟩ = some (.int .u64 x.f1)) := fun X h => seg_nu (hry X h) 1 x.f1 rfl 1 rfl
  have HB2 : Hid (∀ X, Below W0.heap.size W0 X → Bys X (some ⟨y, 2, none⟩) 32 32 x.f2) := fun X h => seg_bys (hry X h) 2 32 x.f2 rfl 2 rfl (by omega)
  have HB3 : Hid (∀ X, Below W0.heap.size W0 X → Bys X (some ⟨y, 34, none⟩) 32 32 x.f3) := fun X h => seg_bys (hry X h) 3 32 x.f3 rfl 34 rfl (by omega)
  have HB4 : Hid (∀ X, Below W0.heap.size W0 X → Bys X (some ⟨y, 66, none⟩) 32 32 x.f4) := fun X h => seg_bys (hry X h) 4 32 x.f4 rfl 66 rfl (by omega)
  have S0 := hid (Below.refl W0.heap.size W0)
  have HB0w := hid hB0
  have EY := hid ey
  clear hB0 r0 hry hx
  go_enter Tryd.func48, Tryd.ntmps48
  go_upto_region 7 with fail
  clear hW0 ey z0
  have ld0 := HL0.out _ S0.out
  go_upto_region 8 with (go_at_call 75; refine (rnumber7 x.f0 _ HX.out.1.1 HX.out.1.2).mono ?_; rintro e X1 ⟨v1, rfl, ho1, hb1⟩)
  obtain ⟨a1, c1, rfl, hr1⟩ := own_at ho1
  clear ho1 ld0
  have S1 := hid (S0.out.trans (hb1.mono S0.out.size))
  have R0 := hid (show ∀ X, Below X1.heap.size X1 X → Bys X a1 8 c1 (nmB x.f0) from fun X h => hr1.below h)
  clear hb1 hr1
  have ld1 := HL1.out _ S1.out
  go_upto_region 9 with (go_at_call 75; refine (rnumber7 x.f1 _ HX.out.2.1.1 HX.out.2.1.2).mono ?_; rintro e X2 ⟨v2, rfl, ho2, hb2⟩)
  obtain ⟨a2, c2, rfl, hr2⟩ := own_at ho2
  clear ho2 ld1
  have S2 := hid (S1.out.trans (hb2.mono S1.out.size))
  have K1 := hid (show Below X1.heap.size X1 X2 from hb2)
  have R1 := hid (show ∀ X, Below X2.heap.size X2 X → Bys X a2 8 c2 (nmB x.f1) from fun X h => hr2.below h)
  clear hb2 hr2
  go_upto_region 10 with (at_builtin; refine wpList_append_bys _ rfl _ _ rfl X2.heap.size _ 0 [] rfl (World.ownsRow_made _ #[] 0 (Nat.le_refl _) (Nat.zero_le _) rfl) _ 32 32 x.f2 rfl (HB2.out _ (S2.out.alloc S2.out.size _)) (by omega) (by simp) ?_; intro v3 X3 ho3 hg3; rw [Nat.zero_add, List.nil_append] at ho3)
  have hb3 := below_grown ((Below.refl X2.heap.size X2).alloc (Nat.le_refl _) (.cells #[] 5)) (World.ownsRow_made _ #[] 0 (Nat.le_refl _) (Nat.zero_le _) rfl) (by simp) hg3
  obtain ⟨a3, c3, rfl, hr3⟩ := own_at ho3
  clear hg3 ho3
  have S3 := hid (S2.out.trans (hb3.mono S2.out.size))
  replace K1 := hid (K1.out.trans (hb3.mono K1.out.size))
  have K2 := hid (show Below X2.heap.size X2 X3 from hb3)
  have R2 := hid (show ∀ X, Below X3.heap.size X3 X → Bys X a3 32 c3 (x.f2) from fun X h => hr3.below h)
  clear hb3 hr3
  go_upto_region 11 with (at_builtin; refine wpList_append_bys _ rfl _ _ rfl X3.heap.size _ 0 [] rfl (World.ownsRow_made _ #[] 0 (Nat.le_refl _) (Nat.zero_le _) rfl) _ 32 32 x.f3 rfl (HB3.out _ (S3.out.alloc S3.out.size _)) (by omega) (by simp) ?_; intro v4 X4 ho4 hg4; rw [Nat.zero_add, List.nil_append] at ho4)
  have hb4 := below_grown ((Below.refl X3.heap.size X3).alloc (Nat.le_refl _) (.cells #[] 5)) (World.ownsRow_made _ #[] 0 (Nat.le_refl _) (Nat.zero_le _) rfl) (by simp) hg4
  obtain ⟨a4, c4, rfl, hr4⟩ := own_at ho4
  clear hg4 ho4
  have S4 := hid (S3.out.trans (hb4.mono S3.out.size))
  replace K1 := hid (K1.out.trans (hb4.mono K1.out.size))
  replace K2 := hid (K2.out.trans (hb4.mono K2.out.size))
  have K3 := hid (show Below X3.heap.size X3 X4 from hb4)
  have R3 := hid (show ∀ X, Below X4.heap.size X4 X → Bys X a4 32 c4 (x.f3) from fun X h => hr4.below h)
  clear hb4 hr4
  go_upto_region 12 with (at_builtin; refine wpList_append_bys _ rfl _ _ rfl X4.heap.size _ 0 [] rfl (World.ownsRow_made _ #[] 0 (Nat.le_refl _) (Nat.zero_le _) rfl) _ 32 32 x.f4 rfl (HB4.out _ (S4.out.alloc S4.out.size _)) (by omega) (by simp) ?_; intro v5 X5 ho5 hg5; rw [Nat.zero_add, List.nil_append] at ho5)
  have hb5 := below_grown ((Below.refl X4.heap.size X4).alloc (Nat.le_refl _) (.cells #[] 5)) (World.ownsRow_made _ #[] 0 (Nat.le_refl _) (Nat.zero_le _) rfl) (by simp) hg5
  obtain ⟨a5, c5, rfl, hr5⟩ := own_at ho5
  clear hg5 ho5
  have S5 := hid (S4.out.trans (hb5.mono S4.out.size))
  replace K1 := hid (K1.out.trans (hb5.mono K1.out.size))
  replace K2 := hid (K2.out.trans (hb5.mono K2.out.size))
  replace K3 := hid (K3.out.trans (hb5.mono K3.out.size))
  have K4 := hid (show Below X4.heap.size X4 X5 from hb5)
  have R4 := hid (show ∀ X, Below X5.heap.size X5 X → Bys X a5 32 c5 (x.f4) from fun X h => hr5.below h)
  clear hb5 hr5
  obtain ⟨ps, eps⟩ : ∃ ps : List Pt, ([(a1, 8, c1, nmB x.f0), (a2, 8, c2, nmB x.f1), (a3, 32, c3, x.f2), (a4, 32, c4, x.f3), (a5, 32, c5, x.f4)] : List Pt) = ps := ⟨_, rfl⟩
  obtain ⟨Y1, hY1⟩ : ∃ Y, X5.alloc (.cells (ps.map ptv).toArray 39) = Y := ⟨_, rfl⟩
  obtain ⟨Y2, hY2⟩ : ∃ Y, Y1.alloc (.cells (vs .i64 5 zHeader) 3) = Y := ⟨_, rfl⟩
  have hy1 : Below X5.heap.size X5 Y1 := by rw [← hY1]; exact (Below.refl _ _).alloc (Nat.le_refl _) _
  have hy2 : Below X5.heap.size X5 Y2 := by rw [← hY2]; exact hy1.alloc hy1.size _
  have g1 : Y2.heap[X5.heap.size]? = some (.cells (ps.map ptv).toArray 39) := by
    rw [← hY2, ← hY1]
    exact (heap_old (by simp)).trans (heap_new rfl)
  have g2 : Y2.heap[Y1.heap.size]? = some (.cells (vs .i64 5 zHeader) 3) := by rw [← hY2]; exact heap_new rfl
  have bs1 := bsP_5 X5 (a1, 8, c1, nmB x.f0) (a2, 8, c2, nmB x.f1) (a3, 32, c3, x.f2) (a4, 32, c4, x.f3) (a5, 32, c5, x.f4)
  have bs2 := bsI_Header Y1
  have hla := rlay7 ps zHeader 5 X5.heap.size Y1.heap.size Y2 (by rw [← eps]; rfl) g1 g2 (fun r hr => by
    rw [← eps]
    rcases (by omega : r = 0 ∨ r = 1 ∨ r = 2 ∨ r = 3 ∨ r = 4) with rfl | rfl | rfl | rfl | rfl
    · exact R0.out _ (K1.out.trans (hy2.mono K1.out.size))
    · exact R1.out _ (K2.out.trans (hy2.mono K2.out.size))
    · exact R2.out _ (K3.out.trans (hy2.mono K3.out.size))
    · exact R3.out _ (K4.out.trans (hy2.mono K4.out.size))
    · exact R4.out _ hy2
    ) (fun r hr => by
    rw [← eps]
    rcases (by omega : r = 0 ∨ r = 1 ∨ r = 2 ∨ r = 3 ∨ r = 4) with rfl | rfl | rfl | rfl | rfl
    all_goals exact ⟨rfl, Nat.le_of_ble_eq_true rfl, Nat.le_of_ble_eq_true rfl⟩) (by omega) (by omega) (by rw [← eps]; exact Nat.le_of_ble_eq_true rfl)
  have e1 : ln7 (ps.map ptb) = 112 := by rw [← eps]; rfl
  have e2 : ct7 (ps.map ptb) = ct7 (eHeader x) := by rw [← eps]; rfl
  rw [e1, e2] at hla
  rw [eps, hY1] at bs1
  rw [hY2] at bs2
  obtain ⟨u1, eu1⟩ : ∃ u, X5.heap.size = u := ⟨_, rfl⟩
  obtain ⟨u2, eu2⟩ : ∃ u, Y1.heap.size = u := ⟨_, rfl⟩
  rw [eu1] at bs1 hla
  rw [eu2] at bs2 hla
  replace bs1 : (bsP 5 #[(0, Value.slice a1 8 c1), (1, Value.slice a2 8 c2), (2, Value.slice a3 32 c3), (3, Value.slice a4 32 c4), (4, Value.slice a5 32 c5)]).run Tryd.prog X5 = .ok (.slice (some ⟨u1, 0, none⟩) 5 5) Y1 := bs1
  have HLA := hid hla
  have HY2 := hid hy2
  clear hla hy1 hy2 g1 g2 e1 e2 eps hY1 hY2 eu1 eu2
  go_wp2_with (go_at_call 54; refine HLA.out.mono ?_; rintro e Y ⟨v, rfl, ho, hbY⟩)
  go_ret2
  have e0 := EY.out
  have e1 := HB0w.out.size
  have e2 := S5.out.size
  have e3 := HY2.out.size
  exact ⟨v, rfl, (ho.mono (by omega) : _), HB0w.out.trans ((S5.out.mono (by omega)).trans ((HY2.out.mono (by omega)).trans (hbY.mono (by omega))))⟩

end Go.Proofs.YtficlakgameglaaDoor

namespace Go.Proofs.YtficlakgameglaaDoor

open Go.RowKit

set_option linter.unusedVariables false

set_option linter.unusedSimpArgs false

attribute [local go_sem ↓] sv24_eq lv24_eq ix22_eq slr_eq bd27_eq bs22_eq

end Go.Proofs.YtficlakgameglaaDoor

namespace Go.Proofs.YtficlakgameglaaDoor

open Go.RowKit

set_option linter.unusedVariables false

set_option linter.unusedSimpArgs false

attribute [local go_sem ↓] sv24_eq lv24_eq ix22_eq slr_eq bd27_eq bs22_eq mkI_eq ixI_eq ixP_eq bsP_eq bsI_eq lvFork_eq svFork_eq bdFork_eq lvCheckpoint_eq svCheckpoint_eq bdCheckpoint_eq lvValidator_eq svValidator_eq bdValidator_eq lvEth1_eq svEth1_eq bdEth1_eq lvHeader_eq svHeader_eq bdHeader_eq

end Go.Proofs.YtficlakgameglaaDoor
