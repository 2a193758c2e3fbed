/-
  What the reference's Enc, Root and Read answer.
-/

import Derived.Test.YtficlakgameglaaDoorQA
import Derived.Test.YtficlakgameglaaDoorCoB
import Derived.Test.YtficlakgameglaaDoorQE
namespace Go.Proofs.YtficlakgameglaaDoor

open Go.RowKit

set_option linter.unusedVariables false

set_option linter.unusedSimpArgs false

attribute [local go_sem ↓] sv24_eq lv24_eq ix22_eq slr_eq bd27_eq bs22_eq bsP_eq bsI_eq lvCheckpoint_eq

set_option maxRecDepth 20000 in
set_option maxHeartbeats 2000000 in
theorem rencValidator_any (x : VValidator) (w : World) (hx : OkValidator x) :
    Calls Tryd.prog 50 #[.agg (cel (sValidator x))] w fun e w' => ∃ v, e = .returned (.tuple #[v, .int .i64 0]) ∧ w'.ownsRow w.heap.size 5 1 v 121 (bl (ct7 (eValidator x)) 121) ∧ Below w.heap.size w w' := by
  have HX := hid hx
  obtain ⟨W0, hW0⟩ : ∃ W, w.alloc (.cells (cel (sValidator x)) 82) = W := ⟨_, rfl⟩
  have hB0 : Below w.heap.size w W0 := by rw [← hW0]; exact (Below.refl _ _).alloc (Nat.le_refl _) _
  have r0 : W0.heap[w.heap.size]? = some (.cells (cel (sValidator x)) 82) := by rw [← hW0]; exact heap_new rfl
  have z0 : w.heap.size < W0.heap.size := by rw [← hW0]; simp
  obtain ⟨y, ey⟩ : ∃ y, w.heap.size = y := ⟨_, rfl⟩
  have hry : ∀ X, Below W0.heap.size W0 X → X.heap[y]? = some (.cells (cel (sValidator x)) 82) := fun X h => by rw [← ey]; exact (h.block _ z0).trans r0
  have HB0 : Hid (∀ X, Below W0.heap.size W0 X → Bys X (some ⟨y, 0, none⟩) 48 48 x.f0) := fun X h => seg_bys (hry X h) 0 48 x.f0 rfl 0 rfl (by omega)
  have HB1 : Hid (∀ X, Below W0.heap.size W0 X → Bys X (some ⟨y, 48, none⟩) 32 32 x.f1) := fun X h => seg_bys (hry X h) 1 32 x.f1 rfl 48 rfl (by omega)
  have HL2 : Hid (∀ X, Below W0.heap.size W0 X → X.cell? ⟨y, 80, none⟩ = some (.int .u64 x.f2)) := fun X h => seg_nu (hry X h) 2 x.f2 rfl 80 rfl
  have HL3 : Hid (∀ X, Below W0.heap.size W0 X → X.cell? ⟨y, 81, none⟩ = some (.bool x.f3)) := fun X h => seg_bo (hry X h) 3 x.f3 rfl 81 rfl
  have HL4 : Hid (∀ X, Below W0.heap.size W0 X → X.cell? ⟨y, 82, none⟩ = some (.int .u64 x.f4)) := fun X h => seg_nu (hry X h) 4 x.f4 rfl 82 rfl
  have HL5 : Hid (∀ X, Below W0.heap.size W0 X → X.cell? ⟨y, 83, none⟩ = some (.int .u64 x.f5)) := fun X h => seg_nu (hry X h) 5 x.f5 rfl 83 rfl
  have HL6 : Hid (∀ X, Below W0.heap.size W0 X → X.cell? ⟨y, 84, none⟩ = some (.int .u64 x.f6)) := fun X h => seg_nu (hry X h) 6 x.f6 rfl 84 rfl
  have HL7 : Hid (∀ X, Below W0.heap.size W0 X → X.cell? ⟨y, 85, none⟩ = some (.int .u64 x.f7)) := fun X h => seg_nu (hry X h) 7 x.f7 rfl 85 rfl
  have S0 := hid (Below.refl W0.heap.size W0)
  have HB0w := hid hB0
  have EY := hid ey
  clear hB0 r0 hry hx
  go_enter Tryd.func50, Tryd.ntmps50
  go_upto_region 10 with fail
  clear hW0 ey z0
  go_upto_region 11 with (at_builtin; refine wpList_append_bys _ rfl _ _ rfl W0.heap.size _ 0 [] rfl (World.ownsRow_made _ #[] 0 (Nat.le_refl _) (Nat.zero_le _) rfl) _ 48 48 x.f0 rfl (HB0.out _ (S0.out.alloc S0.out.size _)) (by omega) (by simp) ?_; intro v1 X1 ho1 hg1; rw [Nat.zero_add, List.nil_append] at ho1)
  have hb1 := below_grown ((Below.refl W0.heap.size W0).alloc (Nat.le_refl _) (.cells #[] 5)) (World.ownsRow_made _ #[] 0 (Nat.le_refl _) (Nat.zero_le _) rfl) (by simp) hg1
  obtain ⟨a1, c1, rfl, hr1⟩ := own_at ho1
  clear hg1 ho1
  have S1 := hid (S0.out.trans (hb1.mono S0.out.size))
  have R0 := hid (show ∀ X, Below X1.heap.size X1 X → Bys X a1 48 c1 (x.f0) from fun X h => hr1.below h)
  clear hb1 hr1
  go_upto_region 12 with (at_builtin; refine wpList_append_bys _ rfl _ _ rfl X1.heap.size _ 0 [] rfl (World.ownsRow_made _ #[] 0 (Nat.le_refl _) (Nat.zero_le _) rfl) _ 32 32 x.f1 rfl (HB1.out _ (S1.out.alloc S1.out.size _)) (by omega) (by simp) ?_; intro v2 X2 ho2 hg2; rw [Nat.zero_add, List.nil_append] at ho2)
  have hb2 := below_grown ((Below.refl X1.heap.size X1).alloc (Nat.le_refl _) (.cells #[] 5)) (World.ownsRow_made _ #[] 0 (Nat.le_refl _) (Nat.zero_le _) rfl) (by simp) hg2
  obtain ⟨a2, c2, rfl, hr2⟩ := own_at ho2
  clear hg2 ho2
  have S2 := hid (S1.out.trans (hb2.mono S1.out.size))
  have K1 := hid (show Below X1.heap.size X1 X2 from hb2)
  have R1 := hid (show ∀ X, Below X2.heap.size X2 X → Bys X a2 32 c2 (x.f1) from fun X h => hr2.below h)
  clear hb2 hr2
  have ld2 := HL2.out _ S2.out
  go_upto_region 13 with (go_at_call 75; refine (rnumber7 x.f2 _ HX.out.2.2.1.1 HX.out.2.2.1.2).mono ?_; rintro e X3 ⟨v3, rfl, ho3, hb3⟩)
  obtain ⟨a3, c3, rfl, hr3⟩ := own_at ho3
  clear ho3 ld2
  have S3 := hid (S2.out.trans (hb3.mono S2.out.size))
  replace K1 := hid (K1.out.trans (hb3.mono K1.out.size))
  have K2 := hid (show Below X2.heap.size X2 X3 from hb3)
  have R2 := hid (show ∀ X, Below X3.heap.size X3 X → Bys X a3 8 c3 (nmB x.f2) from fun X h => hr3.below h)
  clear hb3 hr3
  have ld3 := HL3.out _ S3.out
  go_upto_region 14 with (go_at_call 76; refine (flag7 x.f3 _).mono ?_; rintro e X4 ⟨g4, rfl, hb4, hr4⟩)
  clear ld3
  have S4 := hid (S3.out.trans (hb4.mono S3.out.size))
  replace K1 := hid (K1.out.trans (hb4.mono K1.out.size))
  replace K2 := hid (K2.out.trans (hb4.mono K2.out.size))
  have K3 := hid (show Below X3.heap.size X3 X4 from hb4)
  have R3 := hid (show ∀ X, Below X4.heap.size X4 X → Bys X (some ⟨g4, 0, none⟩) 1 1 (bbB x.f3) from fun X h => hr4.below h)
  clear hb4 hr4
  have ld4 := HL4.out _ S4.out
  go_upto_region 15 with (go_at_call 75; refine (rnumber7 x.f4 _ HX.out.2.2.2.2.1.1 HX.out.2.2.2.2.1.2).mono ?_; rintro e X5 ⟨v5, rfl, ho5, hb5⟩)
  obtain ⟨a5, c5, rfl, hr5⟩ := own_at ho5
  clear ho5 ld4
  have S5 := hid (S4.out.trans (hb5.mono S4.out.size))
  replace K1 := hid (K1.out.trans (hb5.mono K1.out.size))
  replace K2 := hid (K2.out.trans (hb5.mono K2.out.size))
  replace K3 := hid (K3.out.trans (hb5.mono K3.out.size))
  have K4 := hid (show Below X4.heap.size X4 X5 from hb5)
  have R4 := hid (show ∀ X, Below X5.heap.size X5 X → Bys X a5 8 c5 (nmB x.f4) from fun X h => hr5.below h)
  clear hb5 hr5
  have ld5 := HL5.out _ S5.out
  go_upto_region 16 with (go_at_call 75; refine (rnumber7 x.f5 _ HX.out.2.2.2.2.2.1.1 HX.out.2.2.2.2.2.1.2).mono ?_; rintro e X6 ⟨v6, rfl, ho6, hb6⟩)
  obtain ⟨a6, c6, rfl, hr6⟩ := own_at ho6
  clear ho6 ld5
  have S6 := hid (S5.out.trans (hb6.mono S5.out.size))
  replace K1 := hid (K1.out.trans (hb6.mono K1.out.size))
  replace K2 := hid (K2.out.trans (hb6.mono K2.out.size))
  replace K3 := hid (K3.out.trans (hb6.mono K3.out.size))
  replace K4 := hid (K4.out.trans (hb6.mono K4.out.size))
  have K5 := hid (show Below X5.heap.size X5 X6 from hb6)
  have R5 := hid (show ∀ X, Below X6.heap.size X6 X → Bys X a6 8 c6 (nmB x.f5) from fun X h => hr6.below h)
  clear hb6 hr6
  have ld6 := HL6.out _ S6.out
  go_upto_region 17 with (go_at_call 75; refine (rnumber7 x.f6 _ HX.out.2.2.2.2.2.2.1.1 HX.out.2.2.2.2.2.2.1.2).mono ?_; rintro e X7 ⟨v7, rfl, ho7, hb7⟩)
  obtain ⟨a7, c7, rfl, hr7⟩ := own_at ho7
  clear ho7 ld6
  have S7 := hid (S6.out.trans (hb7.mono S6.out.size))
  replace K1 := hid (K1.out.trans (hb7.mono K1.out.size))
  replace K2 := hid (K2.out.trans (hb7.mono K2.out.size))
  replace K3 := hid (K3.out.trans (hb7.mono K3.out.size))
  replace K4 := hid (K4.out.trans (hb7.mono K4.out.size))
  replace K5 := hid (K5.out.trans (hb7.mono K5.out.size))
  have K6 := hid (show Below X6.heap.size X6 X7 from hb7)
  have R6 := hid (show ∀ X, Below X7.heap.size X7 X → Bys X a7 8 c7 (nmB x.f6) from fun X h => hr7.below h)
  clear hb7 hr7
  have ld7 := HL7.out _ S7.out
  go_upto_region 18 with (go_at_call 75; refine (rnumber7 x.f7 _ HX.out.2.2.2.2.2.2.2.1 HX.out.2.2.2.2.2.2.2.2).mono ?_; rintro e X8 ⟨v8, rfl, ho8, hb8⟩)
  obtain ⟨a8, c8, rfl, hr8⟩ := own_at ho8
  clear ho8 ld7
  have S8 := hid (S7.out.trans (hb8.mono S7.out.size))
  replace K1 := hid (K1.out.trans (hb8.mono K1.out.size))
  replace K2 := hid (K2.out.trans (hb8.mono K2.out.size))
  replace K3 := hid (K3.out.trans (hb8.mono K3.out.size))
  replace K4 := hid (K4.out.trans (hb8.mono K4.out.size))
  replace K5 := hid (K5.out.trans (hb8.mono K5.out.size))
  replace K6 := hid (K6.out.trans (hb8.mono K6.out.size))
  have K7 := hid (show Below X7.heap.size X7 X8 from hb8)
  have R7 := hid (show ∀ X, Below X8.heap.size X8 X → Bys X a8 8 c8 (nmB x.f7) from fun X h => hr8.below h)
  clear hb8 hr8
  obtain ⟨ps, eps⟩ : ∃ ps : List Pt, ([(a1, 48, c1, x.f0), (a2, 32, c2, x.f1), (a3, 8, c3, nmB x.f2), (some ⟨g4, 0, none⟩, 1, 1, bbB x.f3), (a5, 8, c5, nmB x.f4), (a6, 8, c6, nmB x.f5), (a7, 8, c7, nmB x.f6), (a8, 8, c8, nmB x.f7)] : List Pt) = ps := ⟨_, rfl⟩
  obtain ⟨Y1, hY1⟩ : ∃ Y, X8.alloc (.cells (ps.map ptv).toArray 39) = Y := ⟨_, rfl⟩
  obtain ⟨Y2, hY2⟩ : ∃ Y, Y1.alloc (.cells (vs .i64 8 zValidator) 3) = Y := ⟨_, rfl⟩
  have hy1 : Below X8.heap.size X8 Y1 := by rw [← hY1]; exact (Below.refl _ _).alloc (Nat.le_refl _) _
  have hy2 : Below X8.heap.size X8 Y2 := by rw [← hY2]; exact hy1.alloc hy1.size _
  have g1 : Y2.heap[X8.heap.size]? = some (.cells (ps.map ptv).toArray 39) := by
    rw [← hY2, ← hY1]
    exact (heap_old (by simp)).trans (heap_new rfl)
  have g2 : Y2.heap[Y1.heap.size]? = some (.cells (vs .i64 8 zValidator) 3) := by rw [← hY2]; exact heap_new rfl
  have bs1 := bsP_8 X8 (a1, 48, c1, x.f0) (a2, 32, c2, x.f1) (a3, 8, c3, nmB x.f2) (some ⟨g4, 0, none⟩, 1, 1, bbB x.f3) (a5, 8, c5, nmB x.f4) (a6, 8, c6, nmB x.f5) (a7, 8, c7, nmB x.f6) (a8, 8, c8, nmB x.f7)
  have bs2 := bsI_Validator Y1
  have hla := rlay7 ps zValidator 8 X8.heap.size Y1.heap.size Y2 (by rw [← eps]; rfl) g1 g2 (fun r hr => by
    rw [← eps]
    rcases (by omega : r = 0 ∨ r = 1 ∨ r = 2 ∨ r = 3 ∨ r = 4 ∨ r = 5 ∨ r = 6 ∨ r = 7) with rfl | rfl | rfl | rfl | rfl | rfl | rfl | rfl
    · exact R0.out _ (K1.out.trans (hy2.mono K1.out.size))
    · exact R1.out _ (K2.out.trans (hy2.mono K2.out.size))
    · exact R2.out _ (K3.out.trans (hy2.mono K3.out.size))
    · exact R3.out _ (K4.out.trans (hy2.mono K4.out.size))
    · exact R4.out _ (K5.out.trans (hy2.mono K5.out.size))
    · exact R5.out _ (K6.out.trans (hy2.mono K6.out.size))
    · exact R6.out _ (K7.out.trans (hy2.mono K7.out.size))
    · exact R7.out _ hy2
    ) (fun r hr => by
    rw [← eps]
    rcases (by omega : r = 0 ∨ r = 1 ∨ r = 2 ∨ r = 3 ∨ r = 4 ∨ r = 5 ∨ r = 6 ∨ r = 7) with rfl | rfl | rfl | rfl | rfl | rfl | rfl | rfl
    all_goals exact ⟨rfl, Nat.le_of_ble_eq_true rfl, Nat.le_of_ble_eq_true rfl⟩) (by omega) (by omega) (by rw [← eps]; exact Nat.le_of_ble_eq_true rfl)
  have e1 : ln7 (ps.map ptb) = 121 := by rw [← eps]; rfl
  have e2 : ct7 (ps.map ptb) = ct7 (eValidator x) := by rw [← eps]; rfl
  rw [e1, e2] at hla
  rw [eps, hY1] at bs1
  rw [hY2] at bs2
  obtain ⟨u1, eu1⟩ : ∃ u, X8.heap.size = u := ⟨_, rfl⟩
  obtain ⟨u2, eu2⟩ : ∃ u, Y1.heap.size = u := ⟨_, rfl⟩
  rw [eu1] at bs1 hla
  rw [eu2] at bs2 hla
  replace bs1 : (bsP 8 #[(0, Value.slice a1 48 c1), (1, Value.slice a2 32 c2), (2, Value.slice a3 8 c3), (3, Value.slice (some ⟨g4, 0, none⟩) 1 1), (4, Value.slice a5 8 c5), (5, Value.slice a6 8 c6), (6, Value.slice a7 8 c7), (7, Value.slice a8 8 c8)]).run Tryd.prog X8 = .ok (.slice (some ⟨u1, 0, none⟩) 8 8) Y1 := bs1
  have HLA := hid hla
  have HY2 := hid hy2
  clear hla hy1 hy2 g1 g2 e1 e2 eps hY1 hY2 eu1 eu2
  go_wp2_with (go_at_call 54; refine HLA.out.mono ?_; rintro e Y ⟨v, rfl, ho, hbY⟩)
  go_ret2
  have e0 := EY.out
  have e1 := HB0w.out.size
  have e2 := S8.out.size
  have e3 := HY2.out.size
  exact ⟨v, rfl, (ho.mono (by omega) : _), HB0w.out.trans ((S8.out.mono (by omega)).trans ((HY2.out.mono (by omega)).trans (hbY.mono (by omega))))⟩

end Go.Proofs.YtficlakgameglaaDoor

namespace Go.Proofs.YtficlakgameglaaDoor

open Go.RowKit

set_option linter.unusedVariables false

set_option linter.unusedSimpArgs false

attribute [local go_sem ↓] sv24_eq lv24_eq ix22_eq slr_eq bd27_eq bs22_eq

end Go.Proofs.YtficlakgameglaaDoor

namespace Go.Proofs.YtficlakgameglaaDoor

open Go.RowKit

set_option linter.unusedVariables false

set_option linter.unusedSimpArgs false

attribute [local go_sem ↓] sv24_eq lv24_eq ix22_eq slr_eq bd27_eq bs22_eq mkI_eq ixI_eq ixP_eq bsP_eq bsI_eq lvFork_eq svFork_eq bdFork_eq lvCheckpoint_eq svCheckpoint_eq bdCheckpoint_eq lvValidator_eq svValidator_eq bdValidator_eq lvEth1_eq svEth1_eq bdEth1_eq lvHeader_eq svHeader_eq bdHeader_eq

end Go.Proofs.YtficlakgameglaaDoor

namespace Go.Proofs.YtficlakgameglaaDoor

open Go.RowKit

set_option linter.unusedVariables false

set_option linter.unusedSimpArgs false

attribute [local go_sem ↓] sv24_eq lv24_eq ix22_eq slr_eq bd27_eq bs22_eq mkI_eq ixI_eq ixP_eq bsP_eq bsI_eq lvCheckpoint_eq svCheckpoint_eq bdCheckpoint_eq lvValidator_eq svValidator_eq bdValidator_eq lvHeader_eq svHeader_eq bdHeader_eq

end Go.Proofs.YtficlakgameglaaDoor
