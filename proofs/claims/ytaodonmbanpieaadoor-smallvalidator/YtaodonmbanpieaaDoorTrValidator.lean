/-
  What the reference's Enc, Root and Read answer.
-/
import Derived.Test.YtaodonmbanpieaaDoorCoA
import Derived.Test.YtaodonmbanpieaaDoorCoB
import Derived.Test.YtaodonmbanpieaaDoorCoC
namespace Go.Proofs.YtaodonmbanpieaaDoor
open Go.RowKit
set_option linter.unusedVariables false
set_option linter.unusedSimpArgs false

attribute [local go_sem ↓] sv24_eq lv24_eq ix22_eq slr_eq bd27_eq bs22_eq bsP_eq bsI_eq lvCheckpoint_eq

set_option maxRecDepth 20000 in
set_option maxHeartbeats 2000000 in
theorem rencValidator_any (x : VValidator) (w : World) (hx : OkValidator x) :
    Calls Tryd.prog 24 #[.agg (cel (sValidator x))] w fun e w' => ∃ v, e = .returned (.tuple #[v, .int .i64 0]) ∧ w'.ownsRow w.heap.size 5 1 v 121 (bl (ct7 (eValidator x)) 121) ∧ Below w.heap.size w w' := by
  have HX := hid hx
  obtain ⟨W0, hW0⟩ : ∃ W, w.alloc (.cells (cel (sValidator x)) 53) = W := ⟨_, rfl⟩
  have hB0 : Below w.heap.size w W0 := by rw [← hW0]; exact (Below.refl _ _).alloc (Nat.le_refl _) _
  have r0 : W0.heap[w.heap.size]? = some (.cells (cel (sValidator x)) 53) := by rw [← hW0]; exact heap_new rfl
  have z0 : w.heap.size < W0.heap.size := by rw [← hW0]; simp
  obtain ⟨y, ey⟩ : ∃ y, w.heap.size = y := ⟨_, rfl⟩
  have hry : ∀ X, Below W0.heap.size W0 X → X.heap[y]? = some (.cells (cel (sValidator x)) 53) := fun X h => by rw [← ey]; exact (h.block _ z0).trans r0
  have HB0 : Hid (∀ X, Below W0.heap.size W0 X → Bys X (some ⟨y, 0, none⟩) 48 48 x.f0) := fun X h => seg_bys (hry X h) 0 48 x.f0 rfl 0 rfl (by omega)
  have HB1 : Hid (∀ X, Below W0.heap.size W0 X → Bys X (some ⟨y, 48, none⟩) 32 32 x.f1) := fun X h => seg_bys (hry X h) 1 32 x.f1 rfl 48 rfl (by omega)
  have HL2 : Hid (∀ X, Below W0.heap.size W0 X → X.cell? ⟨y, 80, none⟩ = some (.int .u64 x.f2)) := fun X h => seg_nu (hry X h) 2 x.f2 rfl 80 rfl
  have HL3 : Hid (∀ X, Below W0.heap.size W0 X → X.cell? ⟨y, 81, none⟩ = some (.bool x.f3)) := fun X h => seg_bo (hry X h) 3 x.f3 rfl 81 rfl
  have HL4 : Hid (∀ X, Below W0.heap.size W0 X → X.cell? ⟨y, 82, none⟩ = some (.int .u64 x.f4)) := fun X h => seg_nu (hry X h) 4 x.f4 rfl 82 rfl
  have HL5 : Hid (∀ X, Below W0.heap.size W0 X → X.cell? ⟨y, 83, none⟩ = some (.int .u64 x.f5)) := fun X h => seg_nu (hry X h) 5 x.f5 rfl 83 rfl
  have HL6 : Hid (∀ X, Below W0.heap.size W0 X → X.cell? ⟨y, 84, none⟩ = some (.int .u64 x.f6)) := fun X h => seg_nu (hry X h) 6 x.f6 rfl 84 rfl
  have HL7 : Hid (∀ X, Below W0.heap.size W0 X → X.cell? ⟨y, 85, none⟩ = some (.int .u64 x.f7)) := fun X h => seg_nu (hry X h) 7 x.f7 rfl 85 rfl
  have S0 := hid (Below.refl W0.heap.size W0)
  have HB0w := hid hB0
  have EY := hid ey
  clear hB0 r0 hry hx
  go_enter Tryd.func24, Tryd.ntmps24
  go_upto_region 10 with fail
  clear hW0 ey z0
  go_upto_region 11 with (at_builtin; refine wpList_append_bys _ rfl _ _ rfl W0.heap.size _ 0 [] rfl (World.ownsRow_made _ #[] 0 (Nat.le_refl _) (Nat.zero_le _) rfl) _ 48 48 x.f0 rfl (HB0.out _ (S0.out.alloc S0.out.size _)) (by omega) (by simp) ?_; intro v1 X1 ho1 hg1; rw [Nat.zero_add, List.nil_append] at ho1)
  have hb1 := below_grown ((Below.refl W0.heap.size W0).alloc (Nat.le_refl _) (.cells #[] 5)) (World.ownsRow_made _ #[] 0 (Nat.le_refl _) (Nat.zero_le _) rfl) (by simp) hg1
  obtain ⟨a1, c1, rfl, hr1⟩ := own_at ho1
  clear hg1 ho1
  have S1 := hid (S0.out.trans (hb1.mono S0.out.size))
  have R0 := hid (show ∀ X, Below X1.heap.size X1 X → Bys X a1 48 c1 (x.f0) from fun X h => hr1.below h)
  clear hb1 hr1
  go_upto_region 12 with (at_builtin; refine wpList_append_bys _ rfl _ _ rfl X1.heap.size _ 0 [] rfl (World.ownsRow_made _ #[] 0 (Nat.le_refl _) (Nat.zero_le _) rfl) _ 32 32 x.f1 rfl (HB1.out _ (S1.out.alloc S1.out.size _)) (by omega) (by simp) ?_; intro v2 X2 ho2 hg2; rw [Nat.zero_add, List.nil_append] at ho2)
  have hb2 := below_grown ((Below.refl X1.heap.size X1).alloc (Nat.le_refl _) (.cells #[] 5)) (World.ownsRow_made _ #[] 0 (Nat.le_refl _) (Nat.zero_le _) rfl) (by simp) hg2
  obtain ⟨a2, c2, rfl, hr2⟩ := own_at ho2
  clear hg2 ho2
  have S2 := hid (S1.out.trans (hb2.mono S1.out.size))
  have K1 := hid (show Below X1.heap.size X1 X2 from hb2)
  have R1 := hid (show ∀ X, Below X2.heap.size X2 X → Bys X a2 32 c2 (x.f1) from fun X h => hr2.below h)
  clear hb2 hr2
  have ld2 := HL2.out _ S2.out
  go_upto_region 13 with (go_at_call 53; refine (rnumber7 x.f2 _ HX.out.2.2.1.1 HX.out.2.2.1.2).mono ?_; rintro e X3 ⟨v3, rfl, ho3, hb3⟩)
  obtain ⟨a3, c3, rfl, hr3⟩ := own_at ho3
  clear ho3 ld2
  have S3 := hid (S2.out.trans (hb3.mono S2.out.size))
  replace K1 := hid (K1.out.trans (hb3.mono K1.out.size))
  have K2 := hid (show Below X2.heap.size X2 X3 from hb3)
  have R2 := hid (show ∀ X, Below X3.heap.size X3 X → Bys X a3 8 c3 (nmB x.f2) from fun X h => hr3.below h)
  clear hb3 hr3
  have ld3 := HL3.out _ S3.out
  go_upto_region 14 with (go_at_call 62; refine (flag7 x.f3 _).mono ?_; rintro e X4 ⟨g4, rfl, hb4, hr4⟩)
  clear ld3
  have S4 := hid (S3.out.trans (hb4.mono S3.out.size))
  replace K1 := hid (K1.out.trans (hb4.mono K1.out.size))
  replace K2 := hid (K2.out.trans (hb4.mono K2.out.size))
  have K3 := hid (show Below X3.heap.size X3 X4 from hb4)
  have R3 := hid (show ∀ X, Below X4.heap.size X4 X → Bys X (some ⟨g4, 0, none⟩) 1 1 (bbB x.f3) from fun X h => hr4.below h)
  clear hb4 hr4
  have ld4 := HL4.out _ S4.out
  go_upto_region 15 with (go_at_call 53; refine (rnumber7 x.f4 _ HX.out.2.2.2.2.1.1 HX.out.2.2.2.2.1.2).mono ?_; rintro e X5 ⟨v5, rfl, ho5, hb5⟩)
  obtain ⟨a5, c5, rfl, hr5⟩ := own_at ho5
  clear ho5 ld4
  have S5 := hid (S4.out.trans (hb5.mono S4.out.size))
  replace K1 := hid (K1.out.trans (hb5.mono K1.out.size))
  replace K2 := hid (K2.out.trans (hb5.mono K2.out.size))
  replace K3 := hid (K3.out.trans (hb5.mono K3.out.size))
  have K4 := hid (show Below X4.heap.size X4 X5 from hb5)
  have R4 := hid (show ∀ X, Below X5.heap.size X5 X → Bys X a5 8 c5 (nmB x.f4) from fun X h => hr5.below h)
  clear hb5 hr5
  have ld5 := HL5.out _ S5.out
  go_upto_region 16 with (go_at_call 53; refine (rnumber7 x.f5 _ HX.out.2.2.2.2.2.1.1 HX.out.2.2.2.2.2.1.2).mono ?_; rintro e X6 ⟨v6, rfl, ho6, hb6⟩)
  obtain ⟨a6, c6, rfl, hr6⟩ := own_at ho6
  clear ho6 ld5
  have S6 := hid (S5.out.trans (hb6.mono S5.out.size))
  replace K1 := hid (K1.out.trans (hb6.mono K1.out.size))
  replace K2 := hid (K2.out.trans (hb6.mono K2.out.size))
  replace K3 := hid (K3.out.trans (hb6.mono K3.out.size))
  replace K4 := hid (K4.out.trans (hb6.mono K4.out.size))
  have K5 := hid (show Below X5.heap.size X5 X6 from hb6)
  have R5 := hid (show ∀ X, Below X6.heap.size X6 X → Bys X a6 8 c6 (nmB x.f5) from fun X h => hr6.below h)
  clear hb6 hr6
  have ld6 := HL6.out _ S6.out
  go_upto_region 17 with (go_at_call 53; refine (rnumber7 x.f6 _ HX.out.2.2.2.2.2.2.1.1 HX.out.2.2.2.2.2.2.1.2).mono ?_; rintro e X7 ⟨v7, rfl, ho7, hb7⟩)
  obtain ⟨a7, c7, rfl, hr7⟩ := own_at ho7
  clear ho7 ld6
  have S7 := hid (S6.out.trans (hb7.mono S6.out.size))
  replace K1 := hid (K1.out.trans (hb7.mono K1.out.size))
  replace K2 := hid (K2.out.trans (hb7.mono K2.out.size))
  replace K3 := hid (K3.out.trans (hb7.mono K3.out.size))
  replace K4 := hid (K4.out.trans (hb7.mono K4.out.size))
  replace K5 := hid (K5.out.trans (hb7.mono K5.out.size))
  have K6 := hid (show Below X6.heap.size X6 X7 from hb7)
  have R6 := hid (show ∀ X, Below X7.heap.size X7 X → Bys X a7 8 c7 (nmB x.f6) from fun X h => hr7.below h)
  clear hb7 hr7
  have ld7 := HL7.out _ S7.out
  go_upto_region 18 with (go_at_call 53; refine (rnumber7 x.f7 _ HX.out.2.2.2.2.2.2.2.1 HX.out.2.2.2.2.2.2.2.2).mono ?_; rintro e X8 ⟨v8, rfl, ho8, hb8⟩)
  obtain ⟨a8, c8, rfl, hr8⟩ := own_at ho8
  clear ho8 ld7
  have S8 := hid (S7.out.trans (hb8.mono S7.out.size))
  replace K1 := hid (K1.out.trans (hb8.mono K1.out.size))
  replace K2 := hid (K2.out.trans (hb8.mono K2.out.size))
  replace K3 := hid (K3.out.trans (hb8.mono K3.out.size))
  replace K4 := hid (K4.out.trans (hb8.mono K4.out.size))
  replace K5 := hid (K5.out.trans (hb8.mono K5.out.size))
  replace K6 := hid (K6.out.trans (hb8.mono K6.out.size))
  have K7 := hid (show Below X7.heap.size X7 X8 from hb8)
  have R7 := hid (show ∀ X, Below X8.heap.size X8 X → Bys X a8 8 c8 (nmB x.f7) from fun X h => hr8.below h)
  clear hb8 hr8
  obtain ⟨ps, eps⟩ : ∃ ps : List Pt, ([(a1, 48, c1, x.f0), (a2, 32, c2, x.f1), (a3, 8, c3, nmB x.f2), (some ⟨g4, 0, none⟩, 1, 1, bbB x.f3), (a5, 8, c5, nmB x.f4), (a6, 8, c6, nmB x.f5), (a7, 8, c7, nmB x.f6), (a8, 8, c8, nmB x.f7)] : List Pt) = ps := ⟨_, rfl⟩
  obtain ⟨Y1, hY1⟩ : ∃ Y, X8.alloc (.cells (ps.map ptv).toArray 27) = Y := ⟨_, rfl⟩
  obtain ⟨Y2, hY2⟩ : ∃ Y, Y1.alloc (.cells (vs .i64 8 zValidator) 3) = Y := ⟨_, rfl⟩
  have hy1 : Below X8.heap.size X8 Y1 := by rw [← hY1]; exact (Below.refl _ _).alloc (Nat.le_refl _) _
  have hy2 : Below X8.heap.size X8 Y2 := by rw [← hY2]; exact hy1.alloc hy1.size _
  have g1 : Y2.heap[X8.heap.size]? = some (.cells (ps.map ptv).toArray 27) := by
    rw [← hY2, ← hY1]
    exact (heap_old (by simp)).trans (heap_new rfl)
  have g2 : Y2.heap[Y1.heap.size]? = some (.cells (vs .i64 8 zValidator) 3) := by rw [← hY2]; exact heap_new rfl
  have bs1 := bsP_8 X8 (a1, 48, c1, x.f0) (a2, 32, c2, x.f1) (a3, 8, c3, nmB x.f2) (some ⟨g4, 0, none⟩, 1, 1, bbB x.f3) (a5, 8, c5, nmB x.f4) (a6, 8, c6, nmB x.f5) (a7, 8, c7, nmB x.f6) (a8, 8, c8, nmB x.f7)
  have bs2 := bsI_Validator Y1
  have hla := rlay7 ps zValidator 8 X8.heap.size Y1.heap.size Y2 (by rw [← eps]; rfl) g1 g2 (fun r hr => by
    rw [← eps]
    rcases (by omega : r = 0 ∨ r = 1 ∨ r = 2 ∨ r = 3 ∨ r = 4 ∨ r = 5 ∨ r = 6 ∨ r = 7) with rfl | rfl | rfl | rfl | rfl | rfl | rfl | rfl
    · exact R0.out _ (K1.out.trans (hy2.mono K1.out.size))
    · exact R1.out _ (K2.out.trans (hy2.mono K2.out.size))
    · exact R2.out _ (K3.out.trans (hy2.mono K3.out.size))
    · exact R3.out _ (K4.out.trans (hy2.mono K4.out.size))
    · exact R4.out _ (K5.out.trans (hy2.mono K5.out.size))
    · exact R5.out _ (K6.out.trans (hy2.mono K6.out.size))
    · exact R6.out _ (K7.out.trans (hy2.mono K7.out.size))
    · exact R7.out _ hy2
    ) (fun r hr => by
    rw [← eps]
    rcases (by omega : r = 0 ∨ r = 1 ∨ r = 2 ∨ r = 3 ∨ r = 4 ∨ r = 5 ∨ r = 6 ∨ r = 7) with rfl | rfl | rfl | rfl | rfl | rfl | rfl | rfl
    all_goals exact ⟨rfl, Nat.le_of_ble_eq_true rfl, Nat.le_of_ble_eq_true rfl⟩) (by omega) (by omega) (by rw [← eps]; exact Nat.le_of_ble_eq_true rfl)
  have e1 : ln7 (ps.map ptb) = 121 := by rw [← eps]; rfl
  have e2 : ct7 (ps.map ptb) = ct7 (eValidator x) := by rw [← eps]; rfl
  rw [e1, e2] at hla
  rw [eps, hY1] at bs1
  rw [hY2] at bs2
  obtain ⟨u1, eu1⟩ : ∃ u, X8.heap.size = u := ⟨_, rfl⟩
  obtain ⟨u2, eu2⟩ : ∃ u, Y1.heap.size = u := ⟨_, rfl⟩
  rw [eu1] at bs1 hla
  rw [eu2] at bs2 hla
  replace bs1 : (bsP 8 #[(0, Value.slice a1 48 c1), (1, Value.slice a2 32 c2), (2, Value.slice a3 8 c3), (3, Value.slice (some ⟨g4, 0, none⟩) 1 1), (4, Value.slice a5 8 c5), (5, Value.slice a6 8 c6), (6, Value.slice a7 8 c7), (7, Value.slice a8 8 c8)]).run Tryd.prog X8 = .ok (.slice (some ⟨u1, 0, none⟩) 8 8) Y1 := bs1
  have HLA := hid hla
  have HY2 := hid hy2
  clear hla hy1 hy2 g1 g2 e1 e2 eps hY1 hY2 eu1 eu2
  go_wp2_with (go_at_call 54; refine HLA.out.mono ?_; rintro e Y ⟨v, rfl, ho, hbY⟩)
  go_ret2
  have e0 := EY.out
  have e1 := HB0w.out.size
  have e2 := S8.out.size
  have e3 := HY2.out.size
  exact ⟨v, rfl, (ho.mono (by omega) : _), HB0w.out.trans ((S8.out.mono (by omega)).trans ((HY2.out.mono (by omega)).trans (hbY.mono (by omega))))⟩

end Go.Proofs.YtaodonmbanpieaaDoor
namespace Go.Proofs.YtaodonmbanpieaaDoor
open Go.RowKit
set_option linter.unusedVariables false
set_option linter.unusedSimpArgs false

attribute [local go_sem ↓] sv24_eq lv24_eq ix22_eq slr_eq bd27_eq bs22_eq

set_option maxRecDepth 20000 in
set_option maxHeartbeats 2000000 in
theorem rrootValidator_any (x : VValidator) (w : World) (hx : OkValidator x) (hC : Rc w) :
    Calls Tryd.prog 25 #[.agg (cel (sValidator x))] w fun e w' => e = .returned (.tuple #[.agg (vs .u8 32 (hValidator x)), .int .i64 0]) ∧ Below w.heap.size w w' := by
  have z := zero_root
  have zc : ∀ W : World, (zeroValue 111).run Tryd.prog W = .ok (.agg (vs .u8 256 (fl7 [fun _ => 0, fun _ => 0, fun _ => 0, fun _ => 0, fun _ => 0, fun _ => 0, fun _ => 0, fun _ => 0]))) W := (zero_of_info (n := 256) (by kernel_rfl)).1
  obtain ⟨y, ey⟩ : ∃ y, w.heap.size = y := ⟨_, rfl⟩
  obtain ⟨W1, hW1⟩ : ∃ W, w.alloc (.cells (cel (sValidator x)) 53) = W := ⟨_, rfl⟩
  obtain ⟨W2, hW2⟩ : ∃ W, W1.alloc (.cells (vs .u8 32 fun _ => 0) 31) = W := ⟨_, rfl⟩
  obtain ⟨V0, hV0⟩ : ∃ W, W2.alloc (.cells (vs .u8 256 (fl7 [fun _ => 0, fun _ => 0, fun _ => 0, fun _ => 0, fun _ => 0, fun _ => 0, fun _ => 0, fun _ => 0])) 111) = W := ⟨_, rfl⟩
  have z1 : W1.heap.size = y + 1 := by rw [← hW1, ← ey]; simp
  have z2 : W2.heap.size = y + 2 := by rw [← hW2]; simp [z1]
  have z3 : V0.heap.size = y + 3 := by rw [← hV0]; simp [z2]
  have hB0 : Below w.heap.size w V0 := by rw [← hV0, ← hW2, ← hW1]; exact (((Below.refl _ _).alloc (Nat.le_refl _) _).alloc (by simp) _).alloc (by simp; omega) _
  have r1 : V0.heap[y]? = some (.cells (cel (sValidator x)) 53) := by rw [← hV0]; refine (heap_old (by omega)).trans ?_; rw [← hW2]; refine (heap_old (by omega)).trans ?_; rw [← hW1]; exact heap_new ey.symm
  have r2 : V0.heap[y + 1]? = some (.cells (vs .u8 32 fun _ => 0) 31) := by rw [← hV0]; refine (heap_old (by omega)).trans ?_; rw [← hW2]; exact heap_new z1.symm
  have r3 : V0.heap[y + 2]? = some (.cells (vs .u8 (32 * 8) (fl7 [fun _ => 0, fun _ => 0, fun _ => 0, fun _ => 0, fun _ => 0, fun _ => 0, fun _ => 0, fun _ => 0])) 111) := by rw [← hV0]; exact heap_new z2.symm
  have hry : ∀ X, Below (y + 2) V0 X → X.heap[y]? = some (.cells (cel (sValidator x)) 53) := fun X h => (h.block _ (by omega)).trans r1
  have hrr : ∀ X, Below (y + 2) V0 X → X.heap[y + 1]? = some (.cells (vs .u8 32 fun _ => 0) 31) := fun X h => (h.block _ (by omega)).trans r2
  have hRc : ∀ X, Below (y + 2) V0 X → Rc X := fun X h => hC.below (hB0.trans (h.mono (by omega)))
  have hk0 : ∀ X, Below (y + 2) V0 X → Calls Tryd.prog 63 #[.slice (some ⟨y, 0, none⟩) 48 48] X fun e w' => ∃ a' cap', e = .returned (.slice a' 2 cap') ∧ Below X.heap.size X w' ∧ Rts w' a' 2 cap' (pk x.f0 48) := fun X h => rpack_any _ 48 48 x.f0 X (seg_bys (hry X h) 0 48 x.f0 rfl 0 rfl (by omega)) (by omega)
  have hc0 : ∀ X a c, Below (y + 2) V0 X → Rts X a 2 c (pk x.f0 48) → Calls Tryd.prog 56 #[.slice a 2 c, .int .i64 2] X fun e w' => e = .returned (.agg (vs .u8 32 (bR x.f0 48))) ∧ Below X.heap.size X w' := fun X a c h hr => must7 a 2 c (pk x.f0 48) 2 X (hRc X h) hr (rts_cap hr (by omega)) (pk_bd hx.1 _) (by decide) (by decide) (by decide)
  have hd0 : ∀ j, j < 32 → 0 ≤ (bR x.f0 48) j ∧ (bR x.f0 48) j < 256 := fun j hj => treeV_bd (pk_bd hx.1 _) _ j hj
  have HL1 : Hid (∀ X, Below (y + 2) V0 X → (lv24 ⟨y, 48, none⟩).run Tryd.prog X = .ok (.agg (vs .u8 32 x.f1)) X) := fun X h => lv24_mid (fun j hj => by
    rw [row_cell (hry X h)]
    exact cel_at (sValidator x) 1 j (Seg.by 32 x.f1) rfl hj)
  have hd1 : ∀ j, j < 32 → 0 ≤ x.f1 j ∧ x.f1 j < 256 := hx.2.1
  have hc2 : ∀ X a c, Below (y + 2) V0 X → Bys X a 8 c (nmB x.f2) → Calls Tryd.prog 55 #[.slice a 8 c] X fun e w' => e = .returned (.agg (vs .u8 32 (bR (nmB x.f2) 8))) ∧ Below X.heap.size X w' := fun X a c h hb => chunk7 a 8 c (nmB x.f2) X (hRc X h) hb (by omega) (by omega) (fun j _ => nmB_bd _ j)
  have HL2 : Hid (∀ X, Below (y + 2) V0 X → X.cell? ⟨y, 80, none⟩ = some (.int .u64 x.f2)) := fun X h => seg_nu (hry X h) 2 x.f2 rfl 80 rfl
  have hd2 : ∀ j, j < 32 → 0 ≤ (bR (nmB x.f2) 8) j ∧ (bR (nmB x.f2) 8) j < 256 := fun j hj => treeV_bd (pk_bd (fun j _ => nmB_bd _ j) _) _ j hj
  have hc3 : ∀ X a c, Below (y + 2) V0 X → Bys X a 1 c (bbB x.f3) → Calls Tryd.prog 55 #[.slice a 1 c] X fun e w' => e = .returned (.agg (vs .u8 32 (bR (bbB x.f3) 1))) ∧ Below X.heap.size X w' := fun X a c h hb => chunk7 a 1 c (bbB x.f3) X (hRc X h) hb (by omega) (by omega) (fun j _ => bbB_bd _ j)
  have HL3 : Hid (∀ X, Below (y + 2) V0 X → X.cell? ⟨y, 81, none⟩ = some (.bool x.f3)) := fun X h => seg_bo (hry X h) 3 x.f3 rfl 81 rfl
  have hd3 : ∀ j, j < 32 → 0 ≤ (bR (bbB x.f3) 1) j ∧ (bR (bbB x.f3) 1) j < 256 := fun j hj => treeV_bd (pk_bd (fun j _ => bbB_bd _ j) _) _ j hj
  have hc4 : ∀ X a c, Below (y + 2) V0 X → Bys X a 8 c (nmB x.f4) → Calls Tryd.prog 55 #[.slice a 8 c] X fun e w' => e = .returned (.agg (vs .u8 32 (bR (nmB x.f4) 8))) ∧ Below X.heap.size X w' := fun X a c h hb => chunk7 a 8 c (nmB x.f4) X (hRc X h) hb (by omega) (by omega) (fun j _ => nmB_bd _ j)
  have HL4 : Hid (∀ X, Below (y + 2) V0 X → X.cell? ⟨y, 82, none⟩ = some (.int .u64 x.f4)) := fun X h => seg_nu (hry X h) 4 x.f4 rfl 82 rfl
  have hd4 : ∀ j, j < 32 → 0 ≤ (bR (nmB x.f4) 8) j ∧ (bR (nmB x.f4) 8) j < 256 := fun j hj => treeV_bd (pk_bd (fun j _ => nmB_bd _ j) _) _ j hj
  have hc5 : ∀ X a c, Below (y + 2) V0 X → Bys X a 8 c (nmB x.f5) → Calls Tryd.prog 55 #[.slice a 8 c] X fun e w' => e = .returned (.agg (vs .u8 32 (bR (nmB x.f5) 8))) ∧ Below X.heap.size X w' := fun X a c h hb => chunk7 a 8 c (nmB x.f5) X (hRc X h) hb (by omega) (by omega) (fun j _ => nmB_bd _ j)
  have HL5 : Hid (∀ X, Below (y + 2) V0 X → X.cell? ⟨y, 83, none⟩ = some (.int .u64 x.f5)) := fun X h => seg_nu (hry X h) 5 x.f5 rfl 83 rfl
  have hd5 : ∀ j, j < 32 → 0 ≤ (bR (nmB x.f5) 8) j ∧ (bR (nmB x.f5) 8) j < 256 := fun j hj => treeV_bd (pk_bd (fun j _ => nmB_bd _ j) _) _ j hj
  have hc6 : ∀ X a c, Below (y + 2) V0 X → Bys X a 8 c (nmB x.f6) → Calls Tryd.prog 55 #[.slice a 8 c] X fun e w' => e = .returned (.agg (vs .u8 32 (bR (nmB x.f6) 8))) ∧ Below X.heap.size X w' := fun X a c h hb => chunk7 a 8 c (nmB x.f6) X (hRc X h) hb (by omega) (by omega) (fun j _ => nmB_bd _ j)
  have HL6 : Hid (∀ X, Below (y + 2) V0 X → X.cell? ⟨y, 84, none⟩ = some (.int .u64 x.f6)) := fun X h => seg_nu (hry X h) 6 x.f6 rfl 84 rfl
  have hd6 : ∀ j, j < 32 → 0 ≤ (bR (nmB x.f6) 8) j ∧ (bR (nmB x.f6) 8) j < 256 := fun j hj => treeV_bd (pk_bd (fun j _ => nmB_bd _ j) _) _ j hj
  have hc7 : ∀ X a c, Below (y + 2) V0 X → Bys X a 8 c (nmB x.f7) → Calls Tryd.prog 55 #[.slice a 8 c] X fun e w' => e = .returned (.agg (vs .u8 32 (bR (nmB x.f7) 8))) ∧ Below X.heap.size X w' := fun X a c h hb => chunk7 a 8 c (nmB x.f7) X (hRc X h) hb (by omega) (by omega) (fun j _ => nmB_bd _ j)
  have HL7 : Hid (∀ X, Below (y + 2) V0 X → X.cell? ⟨y, 85, none⟩ = some (.int .u64 x.f7)) := fun X h => seg_nu (hry X h) 7 x.f7 rfl 85 rfl
  have hd7 : ∀ j, j < 32 → 0 ≤ (bR (nmB x.f7) 8) j ∧ (bR (nmB x.f7) 8) j < 256 := fun j hj => treeV_bd (pk_bd (fun j _ => nmB_bd _ j) _) _ j hj
  have eh : ∀ j, j < 32 → treeV (fl7 [bR x.f0 48, x.f1, bR (nmB x.f2) 8, bR (bbB x.f3) 1, bR (nmB x.f4) 8, bR (nmB x.f5) 8, bR (nmB x.f6) 8, bR (nmB x.f7) 8]) 8 (8 : Nat) j = hValidator x j := fun j hj => treeV_congr (fun q hq => by
    unfold fl7
    have hq5 := Nat.mod_lt q (show 0 < 32 by omega)
    rcases (by omega : q / 32 = 0 ∨ q / 32 = 1 ∨ q / 32 = 2 ∨ q / 32 = 3 ∨ q / 32 = 4 ∨ q / 32 = 5 ∨ q / 32 = 6 ∨ q / 32 = 7) with e | e | e | e | e | e | e | e
    · first | (rw [e]; done) | (rw [e]; rfl)
    · rw [e]; exact (bR_32 x.f1 _ hq5).symm
    · first | (rw [e]; done) | (rw [e]; rfl)
    · first | (rw [e]; done) | (rw [e]; rfl)
    · first | (rw [e]; done) | (rw [e]; rfl)
    · first | (rw [e]; done) | (rw [e]; rfl)
    · first | (rw [e]; done) | (rw [e]; rfl)
    · first | (rw [e]; done) | (rw [e]; rfl)
    ) _ j hj
  obtain ⟨C0, eC0⟩ : ∃ C, bR x.f0 48 = C := ⟨_, rfl⟩
  rw [eC0] at hd0 hc0
  simp only [eC0] at eh
  have HC0 := hid hc0
  have HK0 := hid hk0
  obtain ⟨C1, eC1⟩ : ∃ C, x.f1 = C := ⟨_, rfl⟩
  rw [eC1] at hd1 HL1
  simp only [eC1] at eh
  obtain ⟨C2, eC2⟩ : ∃ C, bR (nmB x.f2) 8 = C := ⟨_, rfl⟩
  rw [eC2] at hd2 hc2
  simp only [eC2] at eh
  have HC2 := hid hc2
  obtain ⟨C3, eC3⟩ : ∃ C, bR (bbB x.f3) 1 = C := ⟨_, rfl⟩
  rw [eC3] at hd3 hc3
  simp only [eC3] at eh
  have HC3 := hid hc3
  obtain ⟨C4, eC4⟩ : ∃ C, bR (nmB x.f4) 8 = C := ⟨_, rfl⟩
  rw [eC4] at hd4 hc4
  simp only [eC4] at eh
  have HC4 := hid hc4
  obtain ⟨C5, eC5⟩ : ∃ C, bR (nmB x.f5) 8 = C := ⟨_, rfl⟩
  rw [eC5] at hd5 hc5
  simp only [eC5] at eh
  have HC5 := hid hc5
  obtain ⟨C6, eC6⟩ : ∃ C, bR (nmB x.f6) 8 = C := ⟨_, rfl⟩
  rw [eC6] at hd6 hc6
  simp only [eC6] at eh
  have HC6 := hid hc6
  obtain ⟨C7, eC7⟩ : ∃ C, bR (nmB x.f7) 8 = C := ⟨_, rfl⟩
  rw [eC7] at hd7 hc7
  simp only [eC7] at eh
  have HC7 := hid hc7
  have hmu : ∀ X, Below (y + 2) V0 X → X.heap[y + 2]? = some (.cells (vs .u8 (32 * 8) (fl7 [C0, C1, C2, C3, C4, C5, C6, C7])) 111) → Calls Tryd.prog 56 #[.slice (some ⟨y + 2, 0, none⟩) 8 8, .int .i64 8] X fun e w' => e = .returned (.agg (vs .u8 32 (hValidator x))) ∧ Below X.heap.size X w' := fun X h h2 => by
    have := must7 (some ⟨y + 2, 0, none⟩) 8 8 (fl7 [C0, C1, C2, C3, C4, C5, C6, C7]) (8 : Nat) X (hRc X h) (rts_row h2) (by omega) (fl7_bd (fun c hc => by
      simp only [List.mem_cons, List.not_mem_nil, or_false] at hc
      rcases hc with rfl | rfl | rfl | rfl | rfl | rfl | rfl | rfl
      · exact hd0
      · exact hd1
      · exact hd2
      · exact hd3
      · exact hd4
      · exact hd5
      · exact hd6
      · exact hd7
      ) _) (by decide) (by decide) (by decide)
    rw [vs_congr (fun j hj => eh j hj)] at this
    exact this
  obtain ⟨D, eD⟩ : ∃ D, hValidator x = D := ⟨_, rfl⟩
  rw [eD] at hmu ⊢
  obtain ⟨u, eu⟩ : ∃ u, y + 2 = u := ⟨_, rfl⟩
  rw [eu] at hmu
  have HU := hid eu
  have HMU := hid hmu
  have HRR := hid hrr
  have HB0w := hid hB0
  have EY := hid ey
  have Z3 := hid z3
  have HX := hid hx
  have RV0 := hid r3
  have SV0 := hid (Below.refl (y + 2) V0)
  rw [eu] at RV0
  clear hmu hrr hB0 z3 r1 r2 r3 hry hRc hx hC eh eD hd0 eC0 hc0 hk0 hd1 eC1 hd2 eC2 hc2 hd3 eC3 hc3 hd4 eC4 hc4 hd5 eC5 hc5 hd6 eC6 hc6 hd7 eC7 hc7
  go_enter Tryd.func25, Tryd.ntmps25
  go_upto_region 3 with fail
  clear hW1 hW2 hV0 z1 z2 ey z zc
  try rw [eu]
  clear eu
  go_upto_region 4 with (first
    | (go_at_call 63; refine (HK0.out _ SV0.out).mono ?_; rintro e Y ⟨a, c, rfl, hb, hr⟩; have SY := hid (SV0.out.trans (hb.mono (by have h1 := HU.out; have h2 := Z3.out; have h3 := SV0.out.size; omega))); have RY := hid ((hb.block _ (Array.getElem?_eq_some_iff.1 RV0.out).1).trans RV0.out); have CY := hid (HC0.out _ _ _ SY.out hr); clear hr hb)
    | (go_at_call 56; refine CY.out.mono ?_; rintro e X0 ⟨rfl, hb⟩; have sb := SY.out.trans (hb.mono (by have h1 := HU.out; have h2 := Z3.out; have h3 := SY.out.size; omega)); have rb := (hb.block _ (Array.getElem?_eq_some_iff.1 RY.out).1).trans RY.out; obtain ⟨sv, nr, nb⟩ := put7 (l := [fun _ => 0, fun _ => 0, fun _ => 0, fun _ => 0, fun _ => 0, fun _ => 0, fun _ => 0, fun _ => 0]) (n := 8) sb (by rw [← HU.out]; exact Nat.le_refl _) rb 0 C0 (by omega) rfl; have NR := hid nr; have NB := hid nb; clear nr nb sb rb hb))
  clear CY
  obtain ⟨V1, hV⟩ : ∃ V, X0.setCells u 0 (bl C0 32) = V := ⟨_, rfl⟩
  have RV1 : Hid (V1.heap[u]? = some (.cells (vs .u8 (32 * 8) (fl7 [C0, fun _ => 0, fun _ => 0, fun _ => 0, fun _ => 0, fun _ => 0, fun _ => 0, fun _ => 0])) 111)) := by rw [← hV]; exact NR.out
  have SV1 : Hid (Below (y + 2) V0 V1) := by rw [← hV]; exact NB.out
  rw [hV]
  clear hV NR NB sv
  have ld := HL1.out _ SV1.out
  obtain ⟨sv, nr, nb⟩ := put7 (l := [C0, fun _ => 0, fun _ => 0, fun _ => 0, fun _ => 0, fun _ => 0, fun _ => 0, fun _ => 0]) (n := 8) SV1.out (by rw [← HU.out]; exact Nat.le_refl _) RV1.out 1 C1 (by omega) rfl
  have NR := hid nr
  have NB := hid nb
  clear nr nb
  go_upto_region 5 with fail
  clear ld
  obtain ⟨V2, hV⟩ : ∃ V, V1.setCells u 32 (bl C1 32) = V := ⟨_, rfl⟩
  have RV2 : Hid (V2.heap[u]? = some (.cells (vs .u8 (32 * 8) (fl7 [C0, C1, fun _ => 0, fun _ => 0, fun _ => 0, fun _ => 0, fun _ => 0, fun _ => 0])) 111)) := by rw [← hV]; exact NR.out
  have SV2 : Hid (Below (y + 2) V0 V2) := by rw [← hV]; exact NB.out
  rw [hV]
  clear hV NR NB sv
  have ld := HL2.out _ SV2.out
  go_upto_region 6 with (first
    | (go_at_call 53; refine (rnumber7 x.f2 _ HX.out.2.2.1.1 HX.out.2.2.1.2).mono ?_; rintro e Y ⟨v, rfl, ho, hb⟩; obtain ⟨a, c, rfl, hr⟩ := own_at ho; clear ho; have SY := hid (SV2.out.trans (hb.mono (by have h1 := HU.out; have h2 := Z3.out; have h3 := SV2.out.size; omega))); have RY := hid ((hb.block _ (Array.getElem?_eq_some_iff.1 RV2.out).1).trans RV2.out); have CY := hid (HC2.out _ _ _ SY.out hr); clear hr hb)
    | (go_at_call 55; refine CY.out.mono ?_; rintro e X2 ⟨rfl, hb⟩; have sb := SY.out.trans (hb.mono (by have h1 := HU.out; have h2 := Z3.out; have h3 := SY.out.size; omega)); have rb := (hb.block _ (Array.getElem?_eq_some_iff.1 RY.out).1).trans RY.out; obtain ⟨sv, nr, nb⟩ := put7 (l := [C0, C1, fun _ => 0, fun _ => 0, fun _ => 0, fun _ => 0, fun _ => 0, fun _ => 0]) (n := 8) sb (by rw [← HU.out]; exact Nat.le_refl _) rb 2 C2 (by omega) rfl; have NR := hid nr; have NB := hid nb; clear nr nb sb rb hb))
  clear CY ld
  obtain ⟨V3, hV⟩ : ∃ V, X2.setCells u 64 (bl C2 32) = V := ⟨_, rfl⟩
  have RV3 : Hid (V3.heap[u]? = some (.cells (vs .u8 (32 * 8) (fl7 [C0, C1, C2, fun _ => 0, fun _ => 0, fun _ => 0, fun _ => 0, fun _ => 0])) 111)) := by rw [← hV]; exact NR.out
  have SV3 : Hid (Below (y + 2) V0 V3) := by rw [← hV]; exact NB.out
  rw [hV]
  clear hV NR NB sv
  have ld := HL3.out _ SV3.out
  go_upto_region 7 with (first
    | (go_at_call 62; refine (flag7 x.f3 _).mono ?_; rintro e Y ⟨g, rfl, hb, hr⟩; have SY := hid (SV3.out.trans (hb.mono (by have h1 := HU.out; have h2 := Z3.out; have h3 := SV3.out.size; omega))); have RY := hid ((hb.block _ (Array.getElem?_eq_some_iff.1 RV3.out).1).trans RV3.out); have CY := hid (HC3.out _ _ _ SY.out hr); clear hr hb)
    | (go_at_call 55; refine CY.out.mono ?_; rintro e X3 ⟨rfl, hb⟩; have sb := SY.out.trans (hb.mono (by have h1 := HU.out; have h2 := Z3.out; have h3 := SY.out.size; omega)); have rb := (hb.block _ (Array.getElem?_eq_some_iff.1 RY.out).1).trans RY.out; obtain ⟨sv, nr, nb⟩ := put7 (l := [C0, C1, C2, fun _ => 0, fun _ => 0, fun _ => 0, fun _ => 0, fun _ => 0]) (n := 8) sb (by rw [← HU.out]; exact Nat.le_refl _) rb 3 C3 (by omega) rfl; have NR := hid nr; have NB := hid nb; clear nr nb sb rb hb))
  clear CY ld
  obtain ⟨V4, hV⟩ : ∃ V, X3.setCells u 96 (bl C3 32) = V := ⟨_, rfl⟩
  have RV4 : Hid (V4.heap[u]? = some (.cells (vs .u8 (32 * 8) (fl7 [C0, C1, C2, C3, fun _ => 0, fun _ => 0, fun _ => 0, fun _ => 0])) 111)) := by rw [← hV]; exact NR.out
  have SV4 : Hid (Below (y + 2) V0 V4) := by rw [← hV]; exact NB.out
  rw [hV]
  clear hV NR NB sv
  have ld := HL4.out _ SV4.out
  go_upto_region 8 with (first
    | (go_at_call 53; refine (rnumber7 x.f4 _ HX.out.2.2.2.2.1.1 HX.out.2.2.2.2.1.2).mono ?_; rintro e Y ⟨v, rfl, ho, hb⟩; obtain ⟨a, c, rfl, hr⟩ := own_at ho; clear ho; have SY := hid (SV4.out.trans (hb.mono (by have h1 := HU.out; have h2 := Z3.out; have h3 := SV4.out.size; omega))); have RY := hid ((hb.block _ (Array.getElem?_eq_some_iff.1 RV4.out).1).trans RV4.out); have CY := hid (HC4.out _ _ _ SY.out hr); clear hr hb)
    | (go_at_call 55; refine CY.out.mono ?_; rintro e X4 ⟨rfl, hb⟩; have sb := SY.out.trans (hb.mono (by have h1 := HU.out; have h2 := Z3.out; have h3 := SY.out.size; omega)); have rb := (hb.block _ (Array.getElem?_eq_some_iff.1 RY.out).1).trans RY.out; obtain ⟨sv, nr, nb⟩ := put7 (l := [C0, C1, C2, C3, fun _ => 0, fun _ => 0, fun _ => 0, fun _ => 0]) (n := 8) sb (by rw [← HU.out]; exact Nat.le_refl _) rb 4 C4 (by omega) rfl; have NR := hid nr; have NB := hid nb; clear nr nb sb rb hb))
  clear CY ld
  obtain ⟨V5, hV⟩ : ∃ V, X4.setCells u 128 (bl C4 32) = V := ⟨_, rfl⟩
  have RV5 : Hid (V5.heap[u]? = some (.cells (vs .u8 (32 * 8) (fl7 [C0, C1, C2, C3, C4, fun _ => 0, fun _ => 0, fun _ => 0])) 111)) := by rw [← hV]; exact NR.out
  have SV5 : Hid (Below (y + 2) V0 V5) := by rw [← hV]; exact NB.out
  rw [hV]
  clear hV NR NB sv
  have ld := HL5.out _ SV5.out
  go_upto_region 9 with (first
    | (go_at_call 53; refine (rnumber7 x.f5 _ HX.out.2.2.2.2.2.1.1 HX.out.2.2.2.2.2.1.2).mono ?_; rintro e Y ⟨v, rfl, ho, hb⟩; obtain ⟨a, c, rfl, hr⟩ := own_at ho; clear ho; have SY := hid (SV5.out.trans (hb.mono (by have h1 := HU.out; have h2 := Z3.out; have h3 := SV5.out.size; omega))); have RY := hid ((hb.block _ (Array.getElem?_eq_some_iff.1 RV5.out).1).trans RV5.out); have CY := hid (HC5.out _ _ _ SY.out hr); clear hr hb)
    | (go_at_call 55; refine CY.out.mono ?_; rintro e X5 ⟨rfl, hb⟩; have sb := SY.out.trans (hb.mono (by have h1 := HU.out; have h2 := Z3.out; have h3 := SY.out.size; omega)); have rb := (hb.block _ (Array.getElem?_eq_some_iff.1 RY.out).1).trans RY.out; obtain ⟨sv, nr, nb⟩ := put7 (l := [C0, C1, C2, C3, C4, fun _ => 0, fun _ => 0, fun _ => 0]) (n := 8) sb (by rw [← HU.out]; exact Nat.le_refl _) rb 5 C5 (by omega) rfl; have NR := hid nr; have NB := hid nb; clear nr nb sb rb hb))
  clear CY ld
  obtain ⟨V6, hV⟩ : ∃ V, X5.setCells u 160 (bl C5 32) = V := ⟨_, rfl⟩
  have RV6 : Hid (V6.heap[u]? = some (.cells (vs .u8 (32 * 8) (fl7 [C0, C1, C2, C3, C4, C5, fun _ => 0, fun _ => 0])) 111)) := by rw [← hV]; exact NR.out
  have SV6 : Hid (Below (y + 2) V0 V6) := by rw [← hV]; exact NB.out
  rw [hV]
  clear hV NR NB sv
  have ld := HL6.out _ SV6.out
  go_upto_region 10 with (first
    | (go_at_call 53; refine (rnumber7 x.f6 _ HX.out.2.2.2.2.2.2.1.1 HX.out.2.2.2.2.2.2.1.2).mono ?_; rintro e Y ⟨v, rfl, ho, hb⟩; obtain ⟨a, c, rfl, hr⟩ := own_at ho; clear ho; have SY := hid (SV6.out.trans (hb.mono (by have h1 := HU.out; have h2 := Z3.out; have h3 := SV6.out.size; omega))); have RY := hid ((hb.block _ (Array.getElem?_eq_some_iff.1 RV6.out).1).trans RV6.out); have CY := hid (HC6.out _ _ _ SY.out hr); clear hr hb)
    | (go_at_call 55; refine CY.out.mono ?_; rintro e X6 ⟨rfl, hb⟩; have sb := SY.out.trans (hb.mono (by have h1 := HU.out; have h2 := Z3.out; have h3 := SY.out.size; omega)); have rb := (hb.block _ (Array.getElem?_eq_some_iff.1 RY.out).1).trans RY.out; obtain ⟨sv, nr, nb⟩ := put7 (l := [C0, C1, C2, C3, C4, C5, fun _ => 0, fun _ => 0]) (n := 8) sb (by rw [← HU.out]; exact Nat.le_refl _) rb 6 C6 (by omega) rfl; have NR := hid nr; have NB := hid nb; clear nr nb sb rb hb))
  clear CY ld
  obtain ⟨V7, hV⟩ : ∃ V, X6.setCells u 192 (bl C6 32) = V := ⟨_, rfl⟩
  have RV7 : Hid (V7.heap[u]? = some (.cells (vs .u8 (32 * 8) (fl7 [C0, C1, C2, C3, C4, C5, C6, fun _ => 0])) 111)) := by rw [← hV]; exact NR.out
  have SV7 : Hid (Below (y + 2) V0 V7) := by rw [← hV]; exact NB.out
  rw [hV]
  clear hV NR NB sv
  have ld := HL7.out _ SV7.out
  go_upto_region 11 with (first
    | (go_at_call 53; refine (rnumber7 x.f7 _ HX.out.2.2.2.2.2.2.2.1 HX.out.2.2.2.2.2.2.2.2).mono ?_; rintro e Y ⟨v, rfl, ho, hb⟩; obtain ⟨a, c, rfl, hr⟩ := own_at ho; clear ho; have SY := hid (SV7.out.trans (hb.mono (by have h1 := HU.out; have h2 := Z3.out; have h3 := SV7.out.size; omega))); have RY := hid ((hb.block _ (Array.getElem?_eq_some_iff.1 RV7.out).1).trans RV7.out); have CY := hid (HC7.out _ _ _ SY.out hr); clear hr hb)
    | (go_at_call 55; refine CY.out.mono ?_; rintro e X7 ⟨rfl, hb⟩; have sb := SY.out.trans (hb.mono (by have h1 := HU.out; have h2 := Z3.out; have h3 := SY.out.size; omega)); have rb := (hb.block _ (Array.getElem?_eq_some_iff.1 RY.out).1).trans RY.out; obtain ⟨sv, nr, nb⟩ := put7 (l := [C0, C1, C2, C3, C4, C5, C6, fun _ => 0]) (n := 8) sb (by rw [← HU.out]; exact Nat.le_refl _) rb 7 C7 (by omega) rfl; have NR := hid nr; have NB := hid nb; clear nr nb sb rb hb))
  clear CY ld
  obtain ⟨V8, hV⟩ : ∃ V, X7.setCells u 224 (bl C7 32) = V := ⟨_, rfl⟩
  have RV8 : Hid (V8.heap[u]? = some (.cells (vs .u8 (32 * 8) (fl7 [C0, C1, C2, C3, C4, C5, C6, C7])) 111)) := by rw [← hV]; exact NR.out
  have SV8 : Hid (Below (y + 2) V0 V8) := by rw [← hV]; exact NB.out
  rw [hV]
  clear hV NR NB sv
  have HM := hid (HMU.out _ (by have := SV8.out; rw [HU.out] at this; exact this) RV8.out)
  go_wp2_with (go_at_call 56; refine HM.out.mono ?_; rintro e Y ⟨rfl, hb⟩; have sy := SV8.out.trans (hb.mono (by have h1 := HU.out; have h2 := Z3.out; have h3 := SV8.out.size; omega)); have rY := HRR.out _ sy; have s1 := sv24_run rY D; have RY := hid rY; have SY := hid sy; clear rY sy hb)
  refine ret24s _ _ (y + 1) _ 31 _ rfl rfl rfl rfl (setRow_at RY.out) ⟨rfl, ?_⟩
  have e0 := EY.out
  exact below_row (HB0w.out.trans (SY.out.mono (by omega))) (by omega) _

end Go.Proofs.YtaodonmbanpieaaDoor
namespace Go.Proofs.YtaodonmbanpieaaDoor
open Go.RowKit
set_option linter.unusedVariables false
set_option linter.unusedSimpArgs false

attribute [local go_sem ↓] sv24_eq lv24_eq ix22_eq slr_eq bd27_eq bs22_eq mkI_eq ixI_eq ixP_eq bsP_eq bsI_eq lvFork_eq svFork_eq bdFork_eq lvCheckpoint_eq svCheckpoint_eq bdCheckpoint_eq lvValidator_eq svValidator_eq bdValidator_eq lvData_eq svData_eq bdData_eq lvEth1_eq svEth1_eq bdEth1_eq lvHeader_eq svHeader_eq bdHeader_eq lvExit_eq svExit_eq bdExit_eq

set_option maxRecDepth 20000 in
set_option maxHeartbeats 2000000 in
theorem rreadValidator_no (m : Nat → Int) (ao : Option Addr) (len cap : Nat) (w : World) (hb : Bys w ao len cap m) (hm : ∀ j, 0 ≤ m j ∧ m j < 256) (hlc : len ≤ cap) (hcap : cap ≤ 9223372036854775807) (hlen : len ≤ 140737488351232) (hN : ¬ len = 121) :
    Calls Tryd.prog 27 #[.slice ao len cap] w fun e w' => e = .returned (.tuple #[.agg (cel (sValidator oValidator)), .int .i64 4]) ∧ Below w.heap.size w w' := by
  have z := zeroValidator
  obtain ⟨y, ey⟩ : ∃ y, w.heap.size = y := ⟨_, rfl⟩
  obtain ⟨W1, hW1⟩ : ∃ W, w.alloc (.cells (cel (sValidator oValidator)) 53) = W := ⟨_, rfl⟩
  obtain ⟨W2, hW2⟩ : ∃ W, W1.alloc (.cells (cel (sValidator oValidator)) 53) = W := ⟨_, rfl⟩
  obtain ⟨W3, hW3⟩ : ∃ W, W2.alloc (.cells (vs .i64 8 zValidator) 3) = W := ⟨_, rfl⟩
  have z1 : W1.heap.size = y + 1 := by rw [← hW1, ← ey]; simp
  have z2 : W2.heap.size = y + 2 := by rw [← hW2]; simp [z1]
  have z3 : W3.heap.size = y + 3 := by rw [← hW3]; simp [z2]
  have hB3 : Below w.heap.size w W3 := by rw [← hW3, ← hW2, ← hW1]; exact (((Below.refl _ _).alloc (Nat.le_refl _) _).alloc (by simp) _).alloc (by simp; omega) _
  have r1 : W3.heap[y]? = some (.cells (cel (sValidator oValidator)) 53) := by rw [← hW3]; refine (heap_old (by omega)).trans ?_; rw [← hW2]; refine (heap_old (by omega)).trans ?_; rw [← hW1]; exact heap_new ey.symm
  have r2 : W3.heap[y + 1]? = some (.cells (cel (sValidator oValidator)) 53) := by rw [← hW3]; refine (heap_old (by omega)).trans ?_; rw [← hW2]; exact heap_new z1.symm
  have g3 : W3.heap[y + 2]? = some (.cells (vs .i64 8 zValidator) 3) := by rw [← hW3]; exact heap_new z2.symm
  have bsi := bsI_Validator W2
  rw [hW3, z2] at bsi
  have hcut := rcut7_no fixValidator ao len cap (y + 2) W3 hlen g3 hN
  obtain ⟨g, eg⟩ : ∃ g, y + 1 = g := ⟨_, rfl⟩
  obtain ⟨u, eu⟩ : ∃ u, y + 2 = u := ⟨_, rfl⟩
  rw [eu] at bsi hcut
  rw [eg] at r2
  have HCUT := hid hcut
  have R1 := hid r1
  have R2 := hid r2
  have HB3 := hid hB3
  have EY := hid ey
  have EG := hid eg
  have Z3 := hid z3
  clear hcut r1 r2 hB3 g3 z3 hlc hcap hb hlen hN
  go_enter Tryd.func27, Tryd.ntmps27
  go_upto_region 3 with (go_at_call 59; refine HCUT.out.mono ?_; rintro e w1 ⟨a1, c1, rfl, hb1⟩)
  clear hW1 hW2 hW3 ey eg eu bsi z1 z2 z
  have z3 := Z3.out
  have e0 := EG.out
  have rr := (hb1.block y (by omega)).trans R1.out
  have rx := (hb1.block g (by omega)).trans R2.out
  have sv := svValidator_run rr oValidator
  have lv := lvValidator_mid (x := oValidator) rx 0 (take_all _) rfl
  have RR := hid rr
  have HB1 := hid hb1
  clear rr hb1 rx z3 e0
  go_wp2
  refine retValidator _ _ y oValidator 53 _ rfl rfl rfl rfl (setRow_at RR.out) ⟨rfl, ?_⟩
  have e0 := EY.out
  have e1 := HB3.out.size
  exact below_row (HB3.out.trans (HB1.out.mono (by omega))) (by omega) _

end Go.Proofs.YtaodonmbanpieaaDoor
namespace Go.Proofs.YtaodonmbanpieaaDoor
open Go.RowKit
set_option linter.unusedVariables false
set_option linter.unusedSimpArgs false

attribute [local go_sem ↓] sv24_eq lv24_eq ix22_eq slr_eq bd27_eq bs22_eq mkI_eq ixI_eq ixP_eq bsP_eq bsI_eq lvCheckpoint_eq svCheckpoint_eq bdCheckpoint_eq lvValidator_eq svValidator_eq bdValidator_eq lvData_eq svData_eq bdData_eq lvHeader_eq svHeader_eq bdHeader_eq lvExit_eq svExit_eq bdExit_eq

set_option maxRecDepth 20000 in
set_option maxHeartbeats 8000000 in
theorem rreadValidator_ok (m : Nat → Int) (ao : Option Addr) (cap : Nat) (w : World) (hb : Bys w ao 121 cap m) (hm : ∀ j, 0 ≤ m j ∧ m j < 256) (hlc : 121 ≤ cap) (hcap : cap ≤ 9223372036854775807) (hfl : ¬ 1 < m 88) :
    Calls Tryd.prog 27 #[.slice ao 121 cap] w fun e w' => e = .returned (.tuple #[.agg (cel (sValidator (pValidator m))), .int .i64 0]) ∧ Below w.heap.size w w' := by
  have z := zeroValidator
  obtain ⟨y, ey⟩ : ∃ y, w.heap.size = y := ⟨_, rfl⟩
  obtain ⟨W1, hW1⟩ : ∃ W, w.alloc (.cells (cel (sValidator oValidator)) 53) = W := ⟨_, rfl⟩
  obtain ⟨W2, hW2⟩ : ∃ W, W1.alloc (.cells (cel (sValidator oValidator)) 53) = W := ⟨_, rfl⟩
  obtain ⟨W3, hW3⟩ : ∃ W, W2.alloc (.cells (vs .i64 8 zValidator) 3) = W := ⟨_, rfl⟩
  have z1 : W1.heap.size = y + 1 := by rw [← hW1, ← ey]; simp
  have z2 : W2.heap.size = y + 2 := by rw [← hW2]; simp [z1]
  have z3 : W3.heap.size = y + 3 := by rw [← hW3]; simp [z2]
  have hB3 : Below w.heap.size w W3 := by rw [← hW3, ← hW2, ← hW1]; exact (((Below.refl _ _).alloc (Nat.le_refl _) _).alloc (by simp) _).alloc (by simp; omega) _
  have r1 : W3.heap[y]? = some (.cells (cel (sValidator oValidator)) 53) := by rw [← hW3]; refine (heap_old (by omega)).trans ?_; rw [← hW2]; refine (heap_old (by omega)).trans ?_; rw [← hW1]; exact heap_new ey.symm
  have r2 : W3.heap[y + 1]? = some (.cells (cel (sValidator oValidator)) 53) := by rw [← hW3]; refine (heap_old (by omega)).trans ?_; rw [← hW2]; exact heap_new z1.symm
  have g3 : W3.heap[y + 2]? = some (.cells (vs .i64 8 zValidator) 3) := by rw [← hW3]; exact heap_new z2.symm
  have bsi := bsI_Validator W2
  rw [hW3, z2] at bsi
  have hcut := rcut7_ok fixValidator m ao cap (y + 2) W3 (hb.below hB3) hm (by omega) hlc hcap g3 (by omega) zposValidator (by omega)
  obtain ⟨g, eg⟩ : ∃ g, y + 1 = g := ⟨_, rfl⟩
  obtain ⟨u, eu⟩ : ∃ u, y + 2 = u := ⟨_, rfl⟩
  rw [eu] at bsi hcut
  rw [eg] at r2
  have HCUT := hid hcut
  have R1 := hid r1
  have R2 := hid r2
  have HB3 := hid hB3
  have EY := hid ey
  have EG := hid eg
  have Z3 := hid z3
  clear hcut r1 r2 hB3 g3 z3 hlc hcap hb
  have HFL := hid hfl
  clear hfl
  go_enter Tryd.func27, Tryd.ntmps27
  go_upto_region 3 with (go_at_call 59; refine HCUT.out.mono ?_; rintro e w1 ⟨gp, o, cp, rfl, hgp, hcu, hb1⟩)
  clear hW1 hW2 hW3 ey eg eu bsi z1 z2 z
  have z3 := Z3.out
  have e0 := EG.out
  have hgw : g < w1.heap.size := by have := hb1.size; omega
  have rx : w1.heap[g]? = some (.cells (cel (sValidator oValidator)) 53) := (hb1.block g (by omega)).trans R2.out
  obtain ⟨b0, o0, c0, l0, q0, f0⟩ := hcu 0 (by omega)
  replace l0 : w1.cell? ⟨gp, o + 0, none⟩ = some (.slice (some ⟨b0, o0, none⟩) 48 c0) := l0
  replace q0 : Bys w1 (some ⟨b0, o0, none⟩) 48 c0 (fun q => m (0 + q)) := q0
  obtain ⟨P0, eP0⟩ : ∃ P, o + 0 = P := ⟨_, rfl⟩
  rw [eP0] at l0
  have ix0 : ∀ X : World, (ixP (.slice (some ⟨gp, o, none⟩) 8 cp) (.int .i64 0)).run Tryd.prog X = .ok (.pointer (some ⟨gp, P0, none⟩)) X := fun X => by rw [← eP0]; exact ixP_run X gp o 8 cp 0 (by omega)
  have hne : gp ≠ g := cel_no rx l0
  have nb0 : b0 ≠ g := by omega
  have HQ0 : Hid (∀ X, Kept g w1 X → Bys X (some ⟨b0, o0, none⟩) 48 c0 (fun q => m (0 + q))) := fun X h => by
    obtain ⟨b', o', e', h1, h2, h3⟩ := bys_at q0 (by omega)
    cases e'
    exact .inr (.inr ⟨_, _, rfl, h2, bys_cap q0 (by omega), Nat.lt_of_lt_of_le h1 h.size, fun j hj => (h.cell h1 nb0).trans (h3 j hj)⟩)
  have HL0 : Hid (∀ X, Kept g w1 X → X.cell? ⟨gp, P0, none⟩ = some (.slice (some ⟨b0, o0, none⟩) 48 c0)) := fun X h => (h.cell hgp hne).trans l0
  clear hne
  obtain ⟨b1, o1, c1, l1, q1, f1⟩ := hcu 1 (by omega)
  replace l1 : w1.cell? ⟨gp, o + 1, none⟩ = some (.slice (some ⟨b1, o1, none⟩) 32 c1) := l1
  replace q1 : Bys w1 (some ⟨b1, o1, none⟩) 32 c1 (fun q => m (48 + q)) := q1
  obtain ⟨P1, eP1⟩ : ∃ P, o + 1 = P := ⟨_, rfl⟩
  rw [eP1] at l1
  have ix1 : ∀ X : World, (ixP (.slice (some ⟨gp, o, none⟩) 8 cp) (.int .i64 1)).run Tryd.prog X = .ok (.pointer (some ⟨gp, P1, none⟩)) X := fun X => by rw [← eP1]; exact ixP_run X gp o 8 cp 1 (by omega)
  have hne : gp ≠ g := cel_no rx l1
  have nb1 : b1 ≠ g := by omega
  have HQ1 : Hid (∀ X, Kept g w1 X → Bys X (some ⟨b1, o1, none⟩) 32 c1 (fun q => m (48 + q))) := fun X h => by
    obtain ⟨b', o', e', h1, h2, h3⟩ := bys_at q1 (by omega)
    cases e'
    exact .inr (.inr ⟨_, _, rfl, h2, bys_cap q1 (by omega), Nat.lt_of_lt_of_le h1 h.size, fun j hj => (h.cell h1 nb1).trans (h3 j hj)⟩)
  have HL1 : Hid (∀ X, Kept g w1 X → X.cell? ⟨gp, P1, none⟩ = some (.slice (some ⟨b1, o1, none⟩) 32 c1)) := fun X h => (h.cell hgp hne).trans l1
  clear hne
  obtain ⟨b2, o2, c2, l2, q2, f2⟩ := hcu 2 (by omega)
  replace l2 : w1.cell? ⟨gp, o + 2, none⟩ = some (.slice (some ⟨b2, o2, none⟩) 8 c2) := l2
  replace q2 : Bys w1 (some ⟨b2, o2, none⟩) 8 c2 (fun q => m (80 + q)) := q2
  obtain ⟨P2, eP2⟩ : ∃ P, o + 2 = P := ⟨_, rfl⟩
  rw [eP2] at l2
  have ix2 : ∀ X : World, (ixP (.slice (some ⟨gp, o, none⟩) 8 cp) (.int .i64 2)).run Tryd.prog X = .ok (.pointer (some ⟨gp, P2, none⟩)) X := fun X => by rw [← eP2]; exact ixP_run X gp o 8 cp 2 (by omega)
  have hne : gp ≠ g := cel_no rx l2
  have nb2 : b2 ≠ g := by omega
  have HQ2 : Hid (∀ X, Kept g w1 X → Bys X (some ⟨b2, o2, none⟩) 8 c2 (fun q => m (80 + q))) := fun X h => by
    obtain ⟨b', o', e', h1, h2, h3⟩ := bys_at q2 (by omega)
    cases e'
    exact .inr (.inr ⟨_, _, rfl, h2, bys_cap q2 (by omega), Nat.lt_of_lt_of_le h1 h.size, fun j hj => (h.cell h1 nb2).trans (h3 j hj)⟩)
  have HL2 : Hid (∀ X, Kept g w1 X → X.cell? ⟨gp, P2, none⟩ = some (.slice (some ⟨b2, o2, none⟩) 8 c2)) := fun X h => (h.cell hgp hne).trans l2
  clear hne
  obtain ⟨b3, o3, c3, l3, q3, f3⟩ := hcu 3 (by omega)
  replace l3 : w1.cell? ⟨gp, o + 3, none⟩ = some (.slice (some ⟨b3, o3, none⟩) 1 c3) := l3
  replace q3 : Bys w1 (some ⟨b3, o3, none⟩) 1 c3 (fun q => m (88 + q)) := q3
  obtain ⟨P3, eP3⟩ : ∃ P, o + 3 = P := ⟨_, rfl⟩
  rw [eP3] at l3
  have ix3 : ∀ X : World, (ixP (.slice (some ⟨gp, o, none⟩) 8 cp) (.int .i64 3)).run Tryd.prog X = .ok (.pointer (some ⟨gp, P3, none⟩)) X := fun X => by rw [← eP3]; exact ixP_run X gp o 8 cp 3 (by omega)
  have hne : gp ≠ g := cel_no rx l3
  have nb3 : b3 ≠ g := by omega
  have HQ3 : Hid (∀ X, Kept g w1 X → Bys X (some ⟨b3, o3, none⟩) 1 c3 (fun q => m (88 + q))) := fun X h => by
    obtain ⟨b', o', e', h1, h2, h3⟩ := bys_at q3 (by omega)
    cases e'
    exact .inr (.inr ⟨_, _, rfl, h2, bys_cap q3 (by omega), Nat.lt_of_lt_of_le h1 h.size, fun j hj => (h.cell h1 nb3).trans (h3 j hj)⟩)
  have HL3 : Hid (∀ X, Kept g w1 X → X.cell? ⟨gp, P3, none⟩ = some (.slice (some ⟨b3, o3, none⟩) 1 c3)) := fun X h => (h.cell hgp hne).trans l3
  clear hne
  obtain ⟨b4, o4, c4, l4, q4, f4⟩ := hcu 4 (by omega)
  replace l4 : w1.cell? ⟨gp, o + 4, none⟩ = some (.slice (some ⟨b4, o4, none⟩) 8 c4) := l4
  replace q4 : Bys w1 (some ⟨b4, o4, none⟩) 8 c4 (fun q => m (89 + q)) := q4
  obtain ⟨P4, eP4⟩ : ∃ P, o + 4 = P := ⟨_, rfl⟩
  rw [eP4] at l4
  have ix4 : ∀ X : World, (ixP (.slice (some ⟨gp, o, none⟩) 8 cp) (.int .i64 4)).run Tryd.prog X = .ok (.pointer (some ⟨gp, P4, none⟩)) X := fun X => by rw [← eP4]; exact ixP_run X gp o 8 cp 4 (by omega)
  have hne : gp ≠ g := cel_no rx l4
  have nb4 : b4 ≠ g := by omega
  have HQ4 : Hid (∀ X, Kept g w1 X → Bys X (some ⟨b4, o4, none⟩) 8 c4 (fun q => m (89 + q))) := fun X h => by
    obtain ⟨b', o', e', h1, h2, h3⟩ := bys_at q4 (by omega)
    cases e'
    exact .inr (.inr ⟨_, _, rfl, h2, bys_cap q4 (by omega), Nat.lt_of_lt_of_le h1 h.size, fun j hj => (h.cell h1 nb4).trans (h3 j hj)⟩)
  have HL4 : Hid (∀ X, Kept g w1 X → X.cell? ⟨gp, P4, none⟩ = some (.slice (some ⟨b4, o4, none⟩) 8 c4)) := fun X h => (h.cell hgp hne).trans l4
  clear hne
  obtain ⟨b5, o5, c5, l5, q5, f5⟩ := hcu 5 (by omega)
  replace l5 : w1.cell? ⟨gp, o + 5, none⟩ = some (.slice (some ⟨b5, o5, none⟩) 8 c5) := l5
  replace q5 : Bys w1 (some ⟨b5, o5, none⟩) 8 c5 (fun q => m (97 + q)) := q5
  obtain ⟨P5, eP5⟩ : ∃ P, o + 5 = P := ⟨_, rfl⟩
  rw [eP5] at l5
  have ix5 : ∀ X : World, (ixP (.slice (some ⟨gp, o, none⟩) 8 cp) (.int .i64 5)).run Tryd.prog X = .ok (.pointer (some ⟨gp, P5, none⟩)) X := fun X => by rw [← eP5]; exact ixP_run X gp o 8 cp 5 (by omega)
  have hne : gp ≠ g := cel_no rx l5
  have nb5 : b5 ≠ g := by omega
  have HQ5 : Hid (∀ X, Kept g w1 X → Bys X (some ⟨b5, o5, none⟩) 8 c5 (fun q => m (97 + q))) := fun X h => by
    obtain ⟨b', o', e', h1, h2, h3⟩ := bys_at q5 (by omega)
    cases e'
    exact .inr (.inr ⟨_, _, rfl, h2, bys_cap q5 (by omega), Nat.lt_of_lt_of_le h1 h.size, fun j hj => (h.cell h1 nb5).trans (h3 j hj)⟩)
  have HL5 : Hid (∀ X, Kept g w1 X → X.cell? ⟨gp, P5, none⟩ = some (.slice (some ⟨b5, o5, none⟩) 8 c5)) := fun X h => (h.cell hgp hne).trans l5
  clear hne
  obtain ⟨b6, o6, c6, l6, q6, f6⟩ := hcu 6 (by omega)
  replace l6 : w1.cell? ⟨gp, o + 6, none⟩ = some (.slice (some ⟨b6, o6, none⟩) 8 c6) := l6
  replace q6 : Bys w1 (some ⟨b6, o6, none⟩) 8 c6 (fun q => m (105 + q)) := q6
  obtain ⟨P6, eP6⟩ : ∃ P, o + 6 = P := ⟨_, rfl⟩
  rw [eP6] at l6
  have ix6 : ∀ X : World, (ixP (.slice (some ⟨gp, o, none⟩) 8 cp) (.int .i64 6)).run Tryd.prog X = .ok (.pointer (some ⟨gp, P6, none⟩)) X := fun X => by rw [← eP6]; exact ixP_run X gp o 8 cp 6 (by omega)
  have hne : gp ≠ g := cel_no rx l6
  have nb6 : b6 ≠ g := by omega
  have HQ6 : Hid (∀ X, Kept g w1 X → Bys X (some ⟨b6, o6, none⟩) 8 c6 (fun q => m (105 + q))) := fun X h => by
    obtain ⟨b', o', e', h1, h2, h3⟩ := bys_at q6 (by omega)
    cases e'
    exact .inr (.inr ⟨_, _, rfl, h2, bys_cap q6 (by omega), Nat.lt_of_lt_of_le h1 h.size, fun j hj => (h.cell h1 nb6).trans (h3 j hj)⟩)
  have HL6 : Hid (∀ X, Kept g w1 X → X.cell? ⟨gp, P6, none⟩ = some (.slice (some ⟨b6, o6, none⟩) 8 c6)) := fun X h => (h.cell hgp hne).trans l6
  clear hne
  obtain ⟨b7, o7, c7, l7, q7, f7⟩ := hcu 7 (by omega)
  replace l7 : w1.cell? ⟨gp, o + 7, none⟩ = some (.slice (some ⟨b7, o7, none⟩) 8 c7) := l7
  replace q7 : Bys w1 (some ⟨b7, o7, none⟩) 8 c7 (fun q => m (113 + q)) := q7
  obtain ⟨P7, eP7⟩ : ∃ P, o + 7 = P := ⟨_, rfl⟩
  rw [eP7] at l7
  have ix7 : ∀ X : World, (ixP (.slice (some ⟨gp, o, none⟩) 8 cp) (.int .i64 7)).run Tryd.prog X = .ok (.pointer (some ⟨gp, P7, none⟩)) X := fun X => by rw [← eP7]; exact ixP_run X gp o 8 cp 7 (by omega)
  have hne : gp ≠ g := cel_no rx l7
  have nb7 : b7 ≠ g := by omega
  have HQ7 : Hid (∀ X, Kept g w1 X → Bys X (some ⟨b7, o7, none⟩) 8 c7 (fun q => m (113 + q))) := fun X h => by
    obtain ⟨b', o', e', h1, h2, h3⟩ := bys_at q7 (by omega)
    cases e'
    exact .inr (.inr ⟨_, _, rfl, h2, bys_cap q7 (by omega), Nat.lt_of_lt_of_le h1 h.size, fun j hj => (h.cell h1 nb7).trans (h3 j hj)⟩)
  have HL7 : Hid (∀ X, Kept g w1 X → X.cell? ⟨gp, P7, none⟩ = some (.slice (some ⟨b7, o7, none⟩) 8 c7)) := fun X h => (h.cell hgp hne).trans l7
  clear hne
  obtain ⟨N2, eN2⟩ : ∃ N, rdN (fun q => m (80 + q)) = N := ⟨_, rfl⟩
  have HN2 : Hid (∀ X, Kept g w1 X → Calls Tryd.prog 60 #[.slice (some ⟨b2, o2, none⟩) 8 c2] X fun e w' => e = .returned (.tuple #[.int .u64 N2, .int .i64 0]) ∧ w' = X) := fun X h => by
    rw [← eN2]
    exact rrd7 _ c2 _ X (HQ2.out X h) (fun j _ => hm _)
  have EN2 := hid eN2
  clear eN2
  obtain ⟨N4, eN4⟩ : ∃ N, rdN (fun q => m (89 + q)) = N := ⟨_, rfl⟩
  have HN4 : Hid (∀ X, Kept g w1 X → Calls Tryd.prog 60 #[.slice (some ⟨b4, o4, none⟩) 8 c4] X fun e w' => e = .returned (.tuple #[.int .u64 N4, .int .i64 0]) ∧ w' = X) := fun X h => by
    rw [← eN4]
    exact rrd7 _ c4 _ X (HQ4.out X h) (fun j _ => hm _)
  have EN4 := hid eN4
  clear eN4
  obtain ⟨N5, eN5⟩ : ∃ N, rdN (fun q => m (97 + q)) = N := ⟨_, rfl⟩
  have HN5 : Hid (∀ X, Kept g w1 X → Calls Tryd.prog 60 #[.slice (some ⟨b5, o5, none⟩) 8 c5] X fun e w' => e = .returned (.tuple #[.int .u64 N5, .int .i64 0]) ∧ w' = X) := fun X h => by
    rw [← eN5]
    exact rrd7 _ c5 _ X (HQ5.out X h) (fun j _ => hm _)
  have EN5 := hid eN5
  clear eN5
  obtain ⟨N6, eN6⟩ : ∃ N, rdN (fun q => m (105 + q)) = N := ⟨_, rfl⟩
  have HN6 : Hid (∀ X, Kept g w1 X → Calls Tryd.prog 60 #[.slice (some ⟨b6, o6, none⟩) 8 c6] X fun e w' => e = .returned (.tuple #[.int .u64 N6, .int .i64 0]) ∧ w' = X) := fun X h => by
    rw [← eN6]
    exact rrd7 _ c6 _ X (HQ6.out X h) (fun j _ => hm _)
  have EN6 := hid eN6
  clear eN6
  obtain ⟨N7, eN7⟩ : ∃ N, rdN (fun q => m (113 + q)) = N := ⟨_, rfl⟩
  have HN7 : Hid (∀ X, Kept g w1 X → Calls Tryd.prog 60 #[.slice (some ⟨b7, o7, none⟩) 8 c7] X fun e w' => e = .returned (.tuple #[.int .u64 N7, .int .i64 0]) ∧ w' = X) := fun X h => by
    rw [← eN7]
    exact rrd7 _ c7 _ X (HQ7.out X h) (fun j _ => hm _)
  have EN7 := hid eN7
  clear eN7
  obtain ⟨N3, eN3⟩ : ∃ N, (m 88 == 1) = N := ⟨_, rfl⟩
  have HN3 : Hid (∀ X, Kept g w1 X → Calls Tryd.prog 65 #[.slice (some ⟨b3, o3, none⟩) 1 c3] X fun e w' => e = .returned (.tuple #[.bool N3, .int .i64 0]) ∧ w' = X) := fun X h => by
    obtain ⟨b', o', e', h1, h2, h3⟩ := bys_at (HQ3.out X h) (by omega)
    cases e'
    have hc := h3 0 (by omega)
    rw [Nat.add_zero] at hc
    rw [← eN3]
    exact Z.rbool_one b3 o3 c3 _ X hc (by have := HFL.out; omega) (hm _).1
  have EN3 := hid eN3
  clear eN3
  have RV0 := hid rx
  have KV0 := hid (Kept.refl g w1)
  have HB1 := hid hb1
  have HGW := hid hgw
  clear rx hb1 hgw hgp hcu z3 e0 l0 q0 f0 eP0 nb0 l1 q1 f1 eP1 nb1 l2 q2 f2 eP2 nb2 l3 q3 f3 eP3 nb3 l4 q4 f4 eP4 nb4 l5 q5 f5 eP5 nb5 l6 q6 f6 eP6 nb6 l7 q7 f7 eP7 nb7
  have rz : w1.heap[g]? = some (.cells (cel (sValidator (⟨fun _ => 0, fun _ => 0, 0, false, 0, 0, 0, 0⟩ : VValidator))) 53) := RV0.out
  replace RV0 := hid rz
  clear rz
  go_upto_region 6 with fail
  go_loopw [7] (fun i wr => ∃ k : Nat, k ≤ 48 ∧ i = .int .i64 k ∧ Kept g w1 wr ∧ wr.heap[g]? = some (.cells (cel (sValidator (⟨fun q => if q < k then m (0 + q) else 0, fun _ => 0, 0, false, 0, 0, 0, 0⟩ : VValidator))) 53)) (fun i _ => 48 - (intOf i).toNat)
  case atStart => exact ⟨0, by omega, rfl, KV0.out, RV0.out.trans (congrArg (fun c => some (Obj.cells c 53)) (by kernel_rfl))⟩
  case round =>
    obtain ⟨k, hk, rfl, hkp, rn⟩ := hrel
    by_cases hlt : k < 48
    · have bq : decide (k < 48) = true := by simp; omega
      have k1 : (k : Int) < 48 := by omega
      have k2 : (0 : Int) ≤ (k : Int) := by omega
      have cs : wr.cell? ⟨g, k, none⟩ = some (.int .u8 (if k < k then m (0 + k) else 0)) := (row_cell rn _).trans ((congrArg (fun j => (cel (sValidator (⟨fun q => if q < k then m (0 + q) else 0, fun _ => 0, 0, false, 0, 0, 0, 0⟩ : VValidator)))[j]?) (show k = 0 + k by omega)).trans (cel_at (sValidator (⟨fun q => if q < k then m (0 + q) else 0, fun _ => 0, 0, false, 0, 0, 0, 0⟩ : VValidator)) 0 k (Seg.by 48 (fun q => if q < k then m (0 + q) else 0)) rfl hlt))
      have fs := row_frozen rn (k)
      have ld := HL0.out _ hkp
      have lc : wr.cell? ⟨b0, o0 + k, none⟩ = some (.int .u8 (m (0 + k))) := by
        obtain ⟨b', o', e', _, _, h3⟩ := bys_at (HQ0.out _ hkp) (by omega)
        cases e'
        exact h3 k hlt
      have RN := hid rn
      have HK := hid hkp
      obtain ⟨M, eM⟩ : ∃ M, m (0 + k) = M := ⟨_, rfl⟩
      rw [eM] at lc
      have EM := hid eM
      clear rn hkp eM
      go_wp2
      go_roundw
      case rel =>
        refine ⟨k + 1, by omega, by go_num, HK.out.setCell _ _, (row_set RN.out _ _).trans (congrArg (fun c => some (Obj.cells c 53)) ?_)⟩
        refine Eq.trans ?_ ((cel_set (l := sValidator (⟨fun q => if q < k then m (0 + q) else 0, fun _ => 0, 0, false, 0, 0, 0, 0⟩ : VValidator)) 0 48 k (fun q => if q < k then m (0 + q) else 0) M rfl hlt).trans ?_)
        · exact congrArg (fun j => (cel (sValidator (⟨fun q => if q < k then m (0 + q) else 0, fun _ => 0, 0, false, 0, 0, 0, 0⟩ : VValidator))).setIfInBounds j (Value.int .u8 M)) (show k = 0 + k by omega)
        · rw [← EM.out, up_step]
          rfl
      case measure => simp [intOf]; omega
    · obtain rfl : k = 48 := by omega
      have bq : decide (48 < 48) = false := by decide
      have RV1 : Hid (wr.heap[g]? = some (.cells (cel (sValidator (⟨fun q => m (0 + q), fun _ => 0, 0, false, 0, 0, 0, 0⟩ : VValidator))) 53)) := rn.trans (congrArg (fun c => some (Obj.cells c 53)) (by kernel_rfl))
      have KV1 := hid hkp
      clear rn hkp bq hk hlt
      obtain ⟨V1, hV⟩ : ∃ V, wr = V := ⟨_, rfl⟩
      subst hV
      go_upto_region 10 with fail
      go_loopw [8] (fun i wr => ∃ k : Nat, k ≤ 32 ∧ i = .int .i64 k ∧ Kept g w1 wr ∧ wr.heap[g]? = some (.cells (cel (sValidator (⟨fun q => m (0 + q), fun q => if q < k then m (48 + q) else 0, 0, false, 0, 0, 0, 0⟩ : VValidator))) 53)) (fun i _ => 32 - (intOf i).toNat)
      case atStart => exact ⟨0, by omega, rfl, KV1.out, RV1.out.trans (congrArg (fun c => some (Obj.cells c 53)) (by kernel_rfl))⟩
      case round =>
        obtain ⟨k, hk, rfl, hkp, rn⟩ := hrel
        by_cases hlt : k < 32
        · have bq : decide (k < 32) = true := by simp; omega
          have k1 : (k : Int) < 32 := by omega
          have k2 : (0 : Int) ≤ (k : Int) := by omega
          have cs : wr.cell? ⟨g, 48 + k, none⟩ = some (.int .u8 (if k < k then m (48 + k) else 0)) := (row_cell rn _).trans ((congrArg (fun j => (cel (sValidator (⟨fun q => m (0 + q), fun q => if q < k then m (48 + q) else 0, 0, false, 0, 0, 0, 0⟩ : VValidator)))[j]?) (show 48 + k = 48 + k by omega)).trans (cel_at (sValidator (⟨fun q => m (0 + q), fun q => if q < k then m (48 + q) else 0, 0, false, 0, 0, 0, 0⟩ : VValidator)) 1 k (Seg.by 32 (fun q => if q < k then m (48 + q) else 0)) rfl hlt))
          have fs := row_frozen rn (48 + k)
          have ld := HL1.out _ hkp
          have lc : wr.cell? ⟨b1, o1 + k, none⟩ = some (.int .u8 (m (48 + k))) := by
            obtain ⟨b', o', e', _, _, h3⟩ := bys_at (HQ1.out _ hkp) (by omega)
            cases e'
            exact h3 k hlt
          have RN := hid rn
          have HK := hid hkp
          obtain ⟨M, eM⟩ : ∃ M, m (48 + k) = M := ⟨_, rfl⟩
          rw [eM] at lc
          have EM := hid eM
          clear rn hkp eM
          go_wp2
          go_roundw
          case rel =>
            refine ⟨k + 1, by omega, by go_num, HK.out.setCell _ _, (row_set RN.out _ _).trans (congrArg (fun c => some (Obj.cells c 53)) ?_)⟩
            refine Eq.trans ?_ ((cel_set (l := sValidator (⟨fun q => m (0 + q), fun q => if q < k then m (48 + q) else 0, 0, false, 0, 0, 0, 0⟩ : VValidator)) 1 32 k (fun q => if q < k then m (48 + q) else 0) M rfl hlt).trans ?_)
            · exact congrArg (fun j => (cel (sValidator (⟨fun q => m (0 + q), fun q => if q < k then m (48 + q) else 0, 0, false, 0, 0, 0, 0⟩ : VValidator))).setIfInBounds j (Value.int .u8 M)) (show 48 + k = 48 + k by omega)
            · rw [← EM.out, up_step]
              rfl
          case measure => simp [intOf]; omega
        · obtain rfl : k = 32 := by omega
          have bq : decide (32 < 32) = false := by decide
          have RV2 : Hid (wr.heap[g]? = some (.cells (cel (sValidator (⟨fun q => m (0 + q), fun q => m (48 + q), 0, false, 0, 0, 0, 0⟩ : VValidator))) 53)) := rn.trans (congrArg (fun c => some (Obj.cells c 53)) (by kernel_rfl))
          have KV2 := hid hkp
          clear rn hkp bq hk hlt
          obtain ⟨V2, hV⟩ : ∃ V, wr = V := ⟨_, rfl⟩
          subst hV
          have ld := HL2.out _ KV2.out
          have cs : wr.cell? ⟨g, 80, none⟩ = some (.int .u64 0) := (row_cell RV2.out _).trans (cel_at (sValidator (⟨fun q => m (0 + q), fun q => m (48 + q), 0, false, 0, 0, 0, 0⟩ : VValidator)) 2 0 (Seg.nu 0) rfl (by show 0 < 1; omega))
          have fs := row_frozen RV2.out 80
          go_upto_region 14 with (go_at_call 60; refine (HN2.out _ KV2.out).mono ?_; rintro e w2 ⟨rfl, hw⟩; obtain rfl := hw.symm)
          obtain ⟨V3, hV⟩ : ∃ V, wr.setCell ⟨g, 80, none⟩ (.int .u64 N2) = V := ⟨_, rfl⟩
          have RV3 : Hid (V3.heap[g]? = some (.cells (cel (sValidator (⟨fun q => m (0 + q), fun q => m (48 + q), N2, false, 0, 0, 0, 0⟩ : VValidator))) 53)) := by rw [← hV]; exact (row_set RV2.out _ _).trans (congrArg (fun c => some (Obj.cells c 53)) (by kernel_rfl))
          have KV3 : Hid (Kept g w1 V3) := by rw [← hV]; exact KV2.out.setCell _ _
          rw [hV]
          clear hV ld cs fs
          have ld := HL3.out _ KV3.out
          have cs : V3.cell? ⟨g, 81, none⟩ = some (.bool false) := (row_cell RV3.out _).trans (cel_at (sValidator (⟨fun q => m (0 + q), fun q => m (48 + q), N2, false, 0, 0, 0, 0⟩ : VValidator)) 3 0 (Seg.bo false) rfl (by show 0 < 1; omega))
          have fs := row_frozen RV3.out 81
          go_upto_region 17 with (go_at_call 65; refine (HN3.out _ KV3.out).mono ?_; rintro e w2 ⟨rfl, hw⟩; obtain rfl := hw.symm)
          obtain ⟨V4, hV⟩ : ∃ V, V3.setCell ⟨g, 81, none⟩ (.bool N3) = V := ⟨_, rfl⟩
          have RV4 : Hid (V4.heap[g]? = some (.cells (cel (sValidator (⟨fun q => m (0 + q), fun q => m (48 + q), N2, N3, 0, 0, 0, 0⟩ : VValidator))) 53)) := by rw [← hV]; exact (row_set RV3.out _ _).trans (congrArg (fun c => some (Obj.cells c 53)) (by kernel_rfl))
          have KV4 : Hid (Kept g w1 V4) := by rw [← hV]; exact KV3.out.setCell _ _
          rw [hV]
          clear hV ld cs fs
          have ld := HL4.out _ KV4.out
          have cs : V4.cell? ⟨g, 82, none⟩ = some (.int .u64 0) := (row_cell RV4.out _).trans (cel_at (sValidator (⟨fun q => m (0 + q), fun q => m (48 + q), N2, N3, 0, 0, 0, 0⟩ : VValidator)) 4 0 (Seg.nu 0) rfl (by show 0 < 1; omega))
          have fs := row_frozen RV4.out 82
          go_upto_region 18 with (go_at_call 60; refine (HN4.out _ KV4.out).mono ?_; rintro e w2 ⟨rfl, hw⟩; obtain rfl := hw.symm)
          obtain ⟨V5, hV⟩ : ∃ V, V4.setCell ⟨g, 82, none⟩ (.int .u64 N4) = V := ⟨_, rfl⟩
          have RV5 : Hid (V5.heap[g]? = some (.cells (cel (sValidator (⟨fun q => m (0 + q), fun q => m (48 + q), N2, N3, N4, 0, 0, 0⟩ : VValidator))) 53)) := by rw [← hV]; exact (row_set RV4.out _ _).trans (congrArg (fun c => some (Obj.cells c 53)) (by kernel_rfl))
          have KV5 : Hid (Kept g w1 V5) := by rw [← hV]; exact KV4.out.setCell _ _
          rw [hV]
          clear hV ld cs fs
          have ld := HL5.out _ KV5.out
          have cs : V5.cell? ⟨g, 83, none⟩ = some (.int .u64 0) := (row_cell RV5.out _).trans (cel_at (sValidator (⟨fun q => m (0 + q), fun q => m (48 + q), N2, N3, N4, 0, 0, 0⟩ : VValidator)) 5 0 (Seg.nu 0) rfl (by show 0 < 1; omega))
          have fs := row_frozen RV5.out 83
          go_upto_region 19 with (go_at_call 60; refine (HN5.out _ KV5.out).mono ?_; rintro e w2 ⟨rfl, hw⟩; obtain rfl := hw.symm)
          obtain ⟨V6, hV⟩ : ∃ V, V5.setCell ⟨g, 83, none⟩ (.int .u64 N5) = V := ⟨_, rfl⟩
          have RV6 : Hid (V6.heap[g]? = some (.cells (cel (sValidator (⟨fun q => m (0 + q), fun q => m (48 + q), N2, N3, N4, N5, 0, 0⟩ : VValidator))) 53)) := by rw [← hV]; exact (row_set RV5.out _ _).trans (congrArg (fun c => some (Obj.cells c 53)) (by kernel_rfl))
          have KV6 : Hid (Kept g w1 V6) := by rw [← hV]; exact KV5.out.setCell _ _
          rw [hV]
          clear hV ld cs fs
          have ld := HL6.out _ KV6.out
          have cs : V6.cell? ⟨g, 84, none⟩ = some (.int .u64 0) := (row_cell RV6.out _).trans (cel_at (sValidator (⟨fun q => m (0 + q), fun q => m (48 + q), N2, N3, N4, N5, 0, 0⟩ : VValidator)) 6 0 (Seg.nu 0) rfl (by show 0 < 1; omega))
          have fs := row_frozen RV6.out 84
          go_upto_region 20 with (go_at_call 60; refine (HN6.out _ KV6.out).mono ?_; rintro e w2 ⟨rfl, hw⟩; obtain rfl := hw.symm)
          obtain ⟨V7, hV⟩ : ∃ V, V6.setCell ⟨g, 84, none⟩ (.int .u64 N6) = V := ⟨_, rfl⟩
          have RV7 : Hid (V7.heap[g]? = some (.cells (cel (sValidator (⟨fun q => m (0 + q), fun q => m (48 + q), N2, N3, N4, N5, N6, 0⟩ : VValidator))) 53)) := by rw [← hV]; exact (row_set RV6.out _ _).trans (congrArg (fun c => some (Obj.cells c 53)) (by kernel_rfl))
          have KV7 : Hid (Kept g w1 V7) := by rw [← hV]; exact KV6.out.setCell _ _
          rw [hV]
          clear hV ld cs fs
          have ld := HL7.out _ KV7.out
          have cs : V7.cell? ⟨g, 85, none⟩ = some (.int .u64 0) := (row_cell RV7.out _).trans (cel_at (sValidator (⟨fun q => m (0 + q), fun q => m (48 + q), N2, N3, N4, N5, N6, 0⟩ : VValidator)) 7 0 (Seg.nu 0) rfl (by show 0 < 1; omega))
          have fs := row_frozen RV7.out 85
          go_upto_region 21 with (go_at_call 60; refine (HN7.out _ KV7.out).mono ?_; rintro e w2 ⟨rfl, hw⟩; obtain rfl := hw.symm)
          obtain ⟨V8, hV⟩ : ∃ V, V7.setCell ⟨g, 85, none⟩ (.int .u64 N7) = V := ⟨_, rfl⟩
          have RV8 : Hid (V8.heap[g]? = some (.cells (cel (sValidator (⟨fun q => m (0 + q), fun q => m (48 + q), N2, N3, N4, N5, N6, N7⟩ : VValidator))) 53)) := by rw [← hV]; exact (row_set RV7.out _ _).trans (congrArg (fun c => some (Obj.cells c 53)) (by kernel_rfl))
          have KV8 : Hid (Kept g w1 V8) := by rw [← hV]; exact KV7.out.setCell _ _
          rw [hV]
          clear hV ld cs fs
          obtain ⟨vv, ev⟩ : ∃ v : VValidator, (⟨fun q => m (0 + q), fun q => m (48 + q), N2, N3, N4, N5, N6, N7⟩ : VValidator) = v := ⟨_, rfl⟩
          have rv := RV8.out
          rw [ev] at rv
          have z3 := Z3.out
          have e0 := EG.out
          have e2 := HB1.out.size
          have rr : V8.heap[y]? = some (.cells (cel (sValidator oValidator)) 53) := (KV8.out.block y (by omega) (by omega)).trans ((HB1.out.block y (by omega)).trans R1.out)
          have sv := svValidator_run rr vv
          have lv := lvValidator_mid (x := vv) rv 0 (take_all _) rfl
          have RR := hid rr
          have EV := hid ev
          clear rr rv ev z3 e0 e2
          go_wp2
          refine retValidator _ _ y vv 53 _ rfl rfl rfl rfl (setRow_at RR.out) ⟨?_, ?_⟩
          · rw [← EV.out, ← EN2.out, ← EN4.out, ← EN5.out, ← EN6.out, ← EN7.out, ← EN3.out]
            rfl
          have e0 := EY.out
          have e1 := HB3.out.size
          have e2 := HB1.out.size
          have e3 := EG.out
          have z3 := Z3.out
          exact below_row (HB3.out.trans ((HB1.out.mono (by omega)).trans (KV8.out.below (by omega) (by omega)))) (by omega) _

set_option maxRecDepth 20000 in
set_option maxHeartbeats 8000000 in
theorem rreadValidator_bad (m : Nat → Int) (ao : Option Addr) (cap : Nat) (w : World) (hb : Bys w ao 121 cap m) (hm : ∀ j, 0 ≤ m j ∧ m j < 256) (hlc : 121 ≤ cap) (hcap : cap ≤ 9223372036854775807) (hfl : 1 < m 88) :
    Calls Tryd.prog 27 #[.slice ao 121 cap] w fun e w' => e = .returned (.tuple #[.agg (cel (sValidator oValidator)), .int .i64 5]) ∧ Below w.heap.size w w' := by
  have z := zeroValidator
  obtain ⟨y, ey⟩ : ∃ y, w.heap.size = y := ⟨_, rfl⟩
  obtain ⟨W1, hW1⟩ : ∃ W, w.alloc (.cells (cel (sValidator oValidator)) 53) = W := ⟨_, rfl⟩
  obtain ⟨W2, hW2⟩ : ∃ W, W1.alloc (.cells (cel (sValidator oValidator)) 53) = W := ⟨_, rfl⟩
  obtain ⟨W3, hW3⟩ : ∃ W, W2.alloc (.cells (vs .i64 8 zValidator) 3) = W := ⟨_, rfl⟩
  have z1 : W1.heap.size = y + 1 := by rw [← hW1, ← ey]; simp
  have z2 : W2.heap.size = y + 2 := by rw [← hW2]; simp [z1]
  have z3 : W3.heap.size = y + 3 := by rw [← hW3]; simp [z2]
  have hB3 : Below w.heap.size w W3 := by rw [← hW3, ← hW2, ← hW1]; exact (((Below.refl _ _).alloc (Nat.le_refl _) _).alloc (by simp) _).alloc (by simp; omega) _
  have r1 : W3.heap[y]? = some (.cells (cel (sValidator oValidator)) 53) := by rw [← hW3]; refine (heap_old (by omega)).trans ?_; rw [← hW2]; refine (heap_old (by omega)).trans ?_; rw [← hW1]; exact heap_new ey.symm
  have r2 : W3.heap[y + 1]? = some (.cells (cel (sValidator oValidator)) 53) := by rw [← hW3]; refine (heap_old (by omega)).trans ?_; rw [← hW2]; exact heap_new z1.symm
  have g3 : W3.heap[y + 2]? = some (.cells (vs .i64 8 zValidator) 3) := by rw [← hW3]; exact heap_new z2.symm
  have bsi := bsI_Validator W2
  rw [hW3, z2] at bsi
  have hcut := rcut7_ok fixValidator m ao cap (y + 2) W3 (hb.below hB3) hm (by omega) hlc hcap g3 (by omega) zposValidator (by omega)
  obtain ⟨g, eg⟩ : ∃ g, y + 1 = g := ⟨_, rfl⟩
  obtain ⟨u, eu⟩ : ∃ u, y + 2 = u := ⟨_, rfl⟩
  rw [eu] at bsi hcut
  rw [eg] at r2
  have HCUT := hid hcut
  have R1 := hid r1
  have R2 := hid r2
  have HB3 := hid hB3
  have EY := hid ey
  have EG := hid eg
  have Z3 := hid z3
  clear hcut r1 r2 hB3 g3 z3 hlc hcap hb
  have HFL := hid hfl
  clear hfl
  go_enter Tryd.func27, Tryd.ntmps27
  go_upto_region 3 with (go_at_call 59; refine HCUT.out.mono ?_; rintro e w1 ⟨gp, o, cp, rfl, hgp, hcu, hb1⟩)
  clear hW1 hW2 hW3 ey eg eu bsi z1 z2 z
  have z3 := Z3.out
  have e0 := EG.out
  have hgw : g < w1.heap.size := by have := hb1.size; omega
  have rx : w1.heap[g]? = some (.cells (cel (sValidator oValidator)) 53) := (hb1.block g (by omega)).trans R2.out
  obtain ⟨b0, o0, c0, l0, q0, f0⟩ := hcu 0 (by omega)
  replace l0 : w1.cell? ⟨gp, o + 0, none⟩ = some (.slice (some ⟨b0, o0, none⟩) 48 c0) := l0
  replace q0 : Bys w1 (some ⟨b0, o0, none⟩) 48 c0 (fun q => m (0 + q)) := q0
  obtain ⟨P0, eP0⟩ : ∃ P, o + 0 = P := ⟨_, rfl⟩
  rw [eP0] at l0
  have ix0 : ∀ X : World, (ixP (.slice (some ⟨gp, o, none⟩) 8 cp) (.int .i64 0)).run Tryd.prog X = .ok (.pointer (some ⟨gp, P0, none⟩)) X := fun X => by rw [← eP0]; exact ixP_run X gp o 8 cp 0 (by omega)
  have hne : gp ≠ g := cel_no rx l0
  have nb0 : b0 ≠ g := by omega
  have HQ0 : Hid (∀ X, Kept g w1 X → Bys X (some ⟨b0, o0, none⟩) 48 c0 (fun q => m (0 + q))) := fun X h => by
    obtain ⟨b', o', e', h1, h2, h3⟩ := bys_at q0 (by omega)
    cases e'
    exact .inr (.inr ⟨_, _, rfl, h2, bys_cap q0 (by omega), Nat.lt_of_lt_of_le h1 h.size, fun j hj => (h.cell h1 nb0).trans (h3 j hj)⟩)
  have HL0 : Hid (∀ X, Kept g w1 X → X.cell? ⟨gp, P0, none⟩ = some (.slice (some ⟨b0, o0, none⟩) 48 c0)) := fun X h => (h.cell hgp hne).trans l0
  clear hne
  obtain ⟨b1, o1, c1, l1, q1, f1⟩ := hcu 1 (by omega)
  replace l1 : w1.cell? ⟨gp, o + 1, none⟩ = some (.slice (some ⟨b1, o1, none⟩) 32 c1) := l1
  replace q1 : Bys w1 (some ⟨b1, o1, none⟩) 32 c1 (fun q => m (48 + q)) := q1
  obtain ⟨P1, eP1⟩ : ∃ P, o + 1 = P := ⟨_, rfl⟩
  rw [eP1] at l1
  have ix1 : ∀ X : World, (ixP (.slice (some ⟨gp, o, none⟩) 8 cp) (.int .i64 1)).run Tryd.prog X = .ok (.pointer (some ⟨gp, P1, none⟩)) X := fun X => by rw [← eP1]; exact ixP_run X gp o 8 cp 1 (by omega)
  have hne : gp ≠ g := cel_no rx l1
  have nb1 : b1 ≠ g := by omega
  have HQ1 : Hid (∀ X, Kept g w1 X → Bys X (some ⟨b1, o1, none⟩) 32 c1 (fun q => m (48 + q))) := fun X h => by
    obtain ⟨b', o', e', h1, h2, h3⟩ := bys_at q1 (by omega)
    cases e'
    exact .inr (.inr ⟨_, _, rfl, h2, bys_cap q1 (by omega), Nat.lt_of_lt_of_le h1 h.size, fun j hj => (h.cell h1 nb1).trans (h3 j hj)⟩)
  have HL1 : Hid (∀ X, Kept g w1 X → X.cell? ⟨gp, P1, none⟩ = some (.slice (some ⟨b1, o1, none⟩) 32 c1)) := fun X h => (h.cell hgp hne).trans l1
  clear hne
  obtain ⟨b2, o2, c2, l2, q2, f2⟩ := hcu 2 (by omega)
  replace l2 : w1.cell? ⟨gp, o + 2, none⟩ = some (.slice (some ⟨b2, o2, none⟩) 8 c2) := l2
  replace q2 : Bys w1 (some ⟨b2, o2, none⟩) 8 c2 (fun q => m (80 + q)) := q2
  obtain ⟨P2, eP2⟩ : ∃ P, o + 2 = P := ⟨_, rfl⟩
  rw [eP2] at l2
  have ix2 : ∀ X : World, (ixP (.slice (some ⟨gp, o, none⟩) 8 cp) (.int .i64 2)).run Tryd.prog X = .ok (.pointer (some ⟨gp, P2, none⟩)) X := fun X => by rw [← eP2]; exact ixP_run X gp o 8 cp 2 (by omega)
  have hne : gp ≠ g := cel_no rx l2
  have nb2 : b2 ≠ g := by omega
  have HQ2 : Hid (∀ X, Kept g w1 X → Bys X (some ⟨b2, o2, none⟩) 8 c2 (fun q => m (80 + q))) := fun X h => by
    obtain ⟨b', o', e', h1, h2, h3⟩ := bys_at q2 (by omega)
    cases e'
    exact .inr (.inr ⟨_, _, rfl, h2, bys_cap q2 (by omega), Nat.lt_of_lt_of_le h1 h.size, fun j hj => (h.cell h1 nb2).trans (h3 j hj)⟩)
  have HL2 : Hid (∀ X, Kept g w1 X → X.cell? ⟨gp, P2, none⟩ = some (.slice (some ⟨b2, o2, none⟩) 8 c2)) := fun X h => (h.cell hgp hne).trans l2
  clear hne
  obtain ⟨b3, o3, c3, l3, q3, f3⟩ := hcu 3 (by omega)
  replace l3 : w1.cell? ⟨gp, o + 3, none⟩ = some (.slice (some ⟨b3, o3, none⟩) 1 c3) := l3
  replace q3 : Bys w1 (some ⟨b3, o3, none⟩) 1 c3 (fun q => m (88 + q)) := q3
  obtain ⟨P3, eP3⟩ : ∃ P, o + 3 = P := ⟨_, rfl⟩
  rw [eP3] at l3
  have ix3 : ∀ X : World, (ixP (.slice (some ⟨gp, o, none⟩) 8 cp) (.int .i64 3)).run Tryd.prog X = .ok (.pointer (some ⟨gp, P3, none⟩)) X := fun X => by rw [← eP3]; exact ixP_run X gp o 8 cp 3 (by omega)
  have hne : gp ≠ g := cel_no rx l3
  have nb3 : b3 ≠ g := by omega
  have HQ3 : Hid (∀ X, Kept g w1 X → Bys X (some ⟨b3, o3, none⟩) 1 c3 (fun q => m (88 + q))) := fun X h => by
    obtain ⟨b', o', e', h1, h2, h3⟩ := bys_at q3 (by omega)
    cases e'
    exact .inr (.inr ⟨_, _, rfl, h2, bys_cap q3 (by omega), Nat.lt_of_lt_of_le h1 h.size, fun j hj => (h.cell h1 nb3).trans (h3 j hj)⟩)
  have HL3 : Hid (∀ X, Kept g w1 X → X.cell? ⟨gp, P3, none⟩ = some (.slice (some ⟨b3, o3, none⟩) 1 c3)) := fun X h => (h.cell hgp hne).trans l3
  clear hne
  obtain ⟨b4, o4, c4, l4, q4, f4⟩ := hcu 4 (by omega)
  replace l4 : w1.cell? ⟨gp, o + 4, none⟩ = some (.slice (some ⟨b4, o4, none⟩) 8 c4) := l4
  replace q4 : Bys w1 (some ⟨b4, o4, none⟩) 8 c4 (fun q => m (89 + q)) := q4
  obtain ⟨P4, eP4⟩ : ∃ P, o + 4 = P := ⟨_, rfl⟩
  rw [eP4] at l4
  have ix4 : ∀ X : World, (ixP (.slice (some ⟨gp, o, none⟩) 8 cp) (.int .i64 4)).run Tryd.prog X = .ok (.pointer (some ⟨gp, P4, none⟩)) X := fun X => by rw [← eP4]; exact ixP_run X gp o 8 cp 4 (by omega)
  have hne : gp ≠ g := cel_no rx l4
  have nb4 : b4 ≠ g := by omega
  have HQ4 : Hid (∀ X, Kept g w1 X → Bys X (some ⟨b4, o4, none⟩) 8 c4 (fun q => m (89 + q))) := fun X h => by
    obtain ⟨b', o', e', h1, h2, h3⟩ := bys_at q4 (by omega)
    cases e'
    exact .inr (.inr ⟨_, _, rfl, h2, bys_cap q4 (by omega), Nat.lt_of_lt_of_le h1 h.size, fun j hj => (h.cell h1 nb4).trans (h3 j hj)⟩)
  have HL4 : Hid (∀ X, Kept g w1 X → X.cell? ⟨gp, P4, none⟩ = some (.slice (some ⟨b4, o4, none⟩) 8 c4)) := fun X h => (h.cell hgp hne).trans l4
  clear hne
  obtain ⟨b5, o5, c5, l5, q5, f5⟩ := hcu 5 (by omega)
  replace l5 : w1.cell? ⟨gp, o + 5, none⟩ = some (.slice (some ⟨b5, o5, none⟩) 8 c5) := l5
  replace q5 : Bys w1 (some ⟨b5, o5, none⟩) 8 c5 (fun q => m (97 + q)) := q5
  obtain ⟨P5, eP5⟩ : ∃ P, o + 5 = P := ⟨_, rfl⟩
  rw [eP5] at l5
  have ix5 : ∀ X : World, (ixP (.slice (some ⟨gp, o, none⟩) 8 cp) (.int .i64 5)).run Tryd.prog X = .ok (.pointer (some ⟨gp, P5, none⟩)) X := fun X => by rw [← eP5]; exact ixP_run X gp o 8 cp 5 (by omega)
  have hne : gp ≠ g := cel_no rx l5
  have nb5 : b5 ≠ g := by omega
  have HQ5 : Hid (∀ X, Kept g w1 X → Bys X (some ⟨b5, o5, none⟩) 8 c5 (fun q => m (97 + q))) := fun X h => by
    obtain ⟨b', o', e', h1, h2, h3⟩ := bys_at q5 (by omega)
    cases e'
    exact .inr (.inr ⟨_, _, rfl, h2, bys_cap q5 (by omega), Nat.lt_of_lt_of_le h1 h.size, fun j hj => (h.cell h1 nb5).trans (h3 j hj)⟩)
  have HL5 : Hid (∀ X, Kept g w1 X → X.cell? ⟨gp, P5, none⟩ = some (.slice (some ⟨b5, o5, none⟩) 8 c5)) := fun X h => (h.cell hgp hne).trans l5
  clear hne
  obtain ⟨b6, o6, c6, l6, q6, f6⟩ := hcu 6 (by omega)
  replace l6 : w1.cell? ⟨gp, o + 6, none⟩ = some (.slice (some ⟨b6, o6, none⟩) 8 c6) := l6
  replace q6 : Bys w1 (some ⟨b6, o6, none⟩) 8 c6 (fun q => m (105 + q)) := q6
  obtain ⟨P6, eP6⟩ : ∃ P, o + 6 = P := ⟨_, rfl⟩
  rw [eP6] at l6
  have ix6 : ∀ X : World, (ixP (.slice (some ⟨gp, o, none⟩) 8 cp) (.int .i64 6)).run Tryd.prog X = .ok (.pointer (some ⟨gp, P6, none⟩)) X := fun X => by rw [← eP6]; exact ixP_run X gp o 8 cp 6 (by omega)
  have hne : gp ≠ g := cel_no rx l6
  have nb6 : b6 ≠ g := by omega
  have HQ6 : Hid (∀ X, Kept g w1 X → Bys X (some ⟨b6, o6, none⟩) 8 c6 (fun q => m (105 + q))) := fun X h => by
    obtain ⟨b', o', e', h1, h2, h3⟩ := bys_at q6 (by omega)
    cases e'
    exact .inr (.inr ⟨_, _, rfl, h2, bys_cap q6 (by omega), Nat.lt_of_lt_of_le h1 h.size, fun j hj => (h.cell h1 nb6).trans (h3 j hj)⟩)
  have HL6 : Hid (∀ X, Kept g w1 X → X.cell? ⟨gp, P6, none⟩ = some (.slice (some ⟨b6, o6, none⟩) 8 c6)) := fun X h => (h.cell hgp hne).trans l6
  clear hne
  obtain ⟨b7, o7, c7, l7, q7, f7⟩ := hcu 7 (by omega)
  replace l7 : w1.cell? ⟨gp, o + 7, none⟩ = some (.slice (some ⟨b7, o7, none⟩) 8 c7) := l7
  replace q7 : Bys w1 (some ⟨b7, o7, none⟩) 8 c7 (fun q => m (113 + q)) := q7
  obtain ⟨P7, eP7⟩ : ∃ P, o + 7 = P := ⟨_, rfl⟩
  rw [eP7] at l7
  have ix7 : ∀ X : World, (ixP (.slice (some ⟨gp, o, none⟩) 8 cp) (.int .i64 7)).run Tryd.prog X = .ok (.pointer (some ⟨gp, P7, none⟩)) X := fun X => by rw [← eP7]; exact ixP_run X gp o 8 cp 7 (by omega)
  have hne : gp ≠ g := cel_no rx l7
  have nb7 : b7 ≠ g := by omega
  have HQ7 : Hid (∀ X, Kept g w1 X → Bys X (some ⟨b7, o7, none⟩) 8 c7 (fun q => m (113 + q))) := fun X h => by
    obtain ⟨b', o', e', h1, h2, h3⟩ := bys_at q7 (by omega)
    cases e'
    exact .inr (.inr ⟨_, _, rfl, h2, bys_cap q7 (by omega), Nat.lt_of_lt_of_le h1 h.size, fun j hj => (h.cell h1 nb7).trans (h3 j hj)⟩)
  have HL7 : Hid (∀ X, Kept g w1 X → X.cell? ⟨gp, P7, none⟩ = some (.slice (some ⟨b7, o7, none⟩) 8 c7)) := fun X h => (h.cell hgp hne).trans l7
  clear hne
  obtain ⟨N2, eN2⟩ : ∃ N, rdN (fun q => m (80 + q)) = N := ⟨_, rfl⟩
  have HN2 : Hid (∀ X, Kept g w1 X → Calls Tryd.prog 60 #[.slice (some ⟨b2, o2, none⟩) 8 c2] X fun e w' => e = .returned (.tuple #[.int .u64 N2, .int .i64 0]) ∧ w' = X) := fun X h => by
    rw [← eN2]
    exact rrd7 _ c2 _ X (HQ2.out X h) (fun j _ => hm _)
  have EN2 := hid eN2
  clear eN2
  obtain ⟨N4, eN4⟩ : ∃ N, rdN (fun q => m (89 + q)) = N := ⟨_, rfl⟩
  have HN4 : Hid (∀ X, Kept g w1 X → Calls Tryd.prog 60 #[.slice (some ⟨b4, o4, none⟩) 8 c4] X fun e w' => e = .returned (.tuple #[.int .u64 N4, .int .i64 0]) ∧ w' = X) := fun X h => by
    rw [← eN4]
    exact rrd7 _ c4 _ X (HQ4.out X h) (fun j _ => hm _)
  have EN4 := hid eN4
  clear eN4
  obtain ⟨N5, eN5⟩ : ∃ N, rdN (fun q => m (97 + q)) = N := ⟨_, rfl⟩
  have HN5 : Hid (∀ X, Kept g w1 X → Calls Tryd.prog 60 #[.slice (some ⟨b5, o5, none⟩) 8 c5] X fun e w' => e = .returned (.tuple #[.int .u64 N5, .int .i64 0]) ∧ w' = X) := fun X h => by
    rw [← eN5]
    exact rrd7 _ c5 _ X (HQ5.out X h) (fun j _ => hm _)
  have EN5 := hid eN5
  clear eN5
  obtain ⟨N6, eN6⟩ : ∃ N, rdN (fun q => m (105 + q)) = N := ⟨_, rfl⟩
  have HN6 : Hid (∀ X, Kept g w1 X → Calls Tryd.prog 60 #[.slice (some ⟨b6, o6, none⟩) 8 c6] X fun e w' => e = .returned (.tuple #[.int .u64 N6, .int .i64 0]) ∧ w' = X) := fun X h => by
    rw [← eN6]
    exact rrd7 _ c6 _ X (HQ6.out X h) (fun j _ => hm _)
  have EN6 := hid eN6
  clear eN6
  obtain ⟨N7, eN7⟩ : ∃ N, rdN (fun q => m (113 + q)) = N := ⟨_, rfl⟩
  have HN7 : Hid (∀ X, Kept g w1 X → Calls Tryd.prog 60 #[.slice (some ⟨b7, o7, none⟩) 8 c7] X fun e w' => e = .returned (.tuple #[.int .u64 N7, .int .i64 0]) ∧ w' = X) := fun X h => by
    rw [← eN7]
    exact rrd7 _ c7 _ X (HQ7.out X h) (fun j _ => hm _)
  have EN7 := hid eN7
  clear eN7
  obtain ⟨N3, eN3⟩ : ∃ N, (m 88 == 1) = N := ⟨_, rfl⟩
  have HN3 : Hid (∀ X, Kept g w1 X → Calls Tryd.prog 65 #[.slice (some ⟨b3, o3, none⟩) 1 c3] X fun e w' => e = .returned (.tuple #[.bool false, .int .i64 5]) ∧ w' = X) := fun X h => by
    obtain ⟨b', o', e', h1, h2, h3⟩ := bys_at (HQ3.out X h) (by omega)
    cases e'
    have hc := h3 0 (by omega)
    rw [Nat.add_zero] at hc
    exact Z.rbool_big b3 o3 c3 _ X hc (by have := HFL.out; omega)
  have EN3 := hid eN3
  clear eN3
  have RV0 := hid rx
  have KV0 := hid (Kept.refl g w1)
  have HB1 := hid hb1
  have HGW := hid hgw
  clear rx hb1 hgw hgp hcu z3 e0 l0 q0 f0 eP0 nb0 l1 q1 f1 eP1 nb1 l2 q2 f2 eP2 nb2 l3 q3 f3 eP3 nb3 l4 q4 f4 eP4 nb4 l5 q5 f5 eP5 nb5 l6 q6 f6 eP6 nb6 l7 q7 f7 eP7 nb7
  have rz : w1.heap[g]? = some (.cells (cel (sValidator (⟨fun _ => 0, fun _ => 0, 0, false, 0, 0, 0, 0⟩ : VValidator))) 53) := RV0.out
  replace RV0 := hid rz
  clear rz
  go_upto_region 6 with fail
  go_loopw [7] (fun i wr => ∃ k : Nat, k ≤ 48 ∧ i = .int .i64 k ∧ Kept g w1 wr ∧ wr.heap[g]? = some (.cells (cel (sValidator (⟨fun q => if q < k then m (0 + q) else 0, fun _ => 0, 0, false, 0, 0, 0, 0⟩ : VValidator))) 53)) (fun i _ => 48 - (intOf i).toNat)
  case atStart => exact ⟨0, by omega, rfl, KV0.out, RV0.out.trans (congrArg (fun c => some (Obj.cells c 53)) (by kernel_rfl))⟩
  case round =>
    obtain ⟨k, hk, rfl, hkp, rn⟩ := hrel
    by_cases hlt : k < 48
    · have bq : decide (k < 48) = true := by simp; omega
      have k1 : (k : Int) < 48 := by omega
      have k2 : (0 : Int) ≤ (k : Int) := by omega
      have cs : wr.cell? ⟨g, k, none⟩ = some (.int .u8 (if k < k then m (0 + k) else 0)) := (row_cell rn _).trans ((congrArg (fun j => (cel (sValidator (⟨fun q => if q < k then m (0 + q) else 0, fun _ => 0, 0, false, 0, 0, 0, 0⟩ : VValidator)))[j]?) (show k = 0 + k by omega)).trans (cel_at (sValidator (⟨fun q => if q < k then m (0 + q) else 0, fun _ => 0, 0, false, 0, 0, 0, 0⟩ : VValidator)) 0 k (Seg.by 48 (fun q => if q < k then m (0 + q) else 0)) rfl hlt))
      have fs := row_frozen rn (k)
      have ld := HL0.out _ hkp
      have lc : wr.cell? ⟨b0, o0 + k, none⟩ = some (.int .u8 (m (0 + k))) := by
        obtain ⟨b', o', e', _, _, h3⟩ := bys_at (HQ0.out _ hkp) (by omega)
        cases e'
        exact h3 k hlt
      have RN := hid rn
      have HK := hid hkp
      obtain ⟨M, eM⟩ : ∃ M, m (0 + k) = M := ⟨_, rfl⟩
      rw [eM] at lc
      have EM := hid eM
      clear rn hkp eM
      go_wp2
      go_roundw
      case rel =>
        refine ⟨k + 1, by omega, by go_num, HK.out.setCell _ _, (row_set RN.out _ _).trans (congrArg (fun c => some (Obj.cells c 53)) ?_)⟩
        refine Eq.trans ?_ ((cel_set (l := sValidator (⟨fun q => if q < k then m (0 + q) else 0, fun _ => 0, 0, false, 0, 0, 0, 0⟩ : VValidator)) 0 48 k (fun q => if q < k then m (0 + q) else 0) M rfl hlt).trans ?_)
        · exact congrArg (fun j => (cel (sValidator (⟨fun q => if q < k then m (0 + q) else 0, fun _ => 0, 0, false, 0, 0, 0, 0⟩ : VValidator))).setIfInBounds j (Value.int .u8 M)) (show k = 0 + k by omega)
        · rw [← EM.out, up_step]
          rfl
      case measure => simp [intOf]; omega
    · obtain rfl : k = 48 := by omega
      have bq : decide (48 < 48) = false := by decide
      have RV1 : Hid (wr.heap[g]? = some (.cells (cel (sValidator (⟨fun q => m (0 + q), fun _ => 0, 0, false, 0, 0, 0, 0⟩ : VValidator))) 53)) := rn.trans (congrArg (fun c => some (Obj.cells c 53)) (by kernel_rfl))
      have KV1 := hid hkp
      clear rn hkp bq hk hlt
      obtain ⟨V1, hV⟩ : ∃ V, wr = V := ⟨_, rfl⟩
      subst hV
      go_upto_region 10 with fail
      go_loopw [8] (fun i wr => ∃ k : Nat, k ≤ 32 ∧ i = .int .i64 k ∧ Kept g w1 wr ∧ wr.heap[g]? = some (.cells (cel (sValidator (⟨fun q => m (0 + q), fun q => if q < k then m (48 + q) else 0, 0, false, 0, 0, 0, 0⟩ : VValidator))) 53)) (fun i _ => 32 - (intOf i).toNat)
      case atStart => exact ⟨0, by omega, rfl, KV1.out, RV1.out.trans (congrArg (fun c => some (Obj.cells c 53)) (by kernel_rfl))⟩
      case round =>
        obtain ⟨k, hk, rfl, hkp, rn⟩ := hrel
        by_cases hlt : k < 32
        · have bq : decide (k < 32) = true := by simp; omega
          have k1 : (k : Int) < 32 := by omega
          have k2 : (0 : Int) ≤ (k : Int) := by omega
          have cs : wr.cell? ⟨g, 48 + k, none⟩ = some (.int .u8 (if k < k then m (48 + k) else 0)) := (row_cell rn _).trans ((congrArg (fun j => (cel (sValidator (⟨fun q => m (0 + q), fun q => if q < k then m (48 + q) else 0, 0, false, 0, 0, 0, 0⟩ : VValidator)))[j]?) (show 48 + k = 48 + k by omega)).trans (cel_at (sValidator (⟨fun q => m (0 + q), fun q => if q < k then m (48 + q) else 0, 0, false, 0, 0, 0, 0⟩ : VValidator)) 1 k (Seg.by 32 (fun q => if q < k then m (48 + q) else 0)) rfl hlt))
          have fs := row_frozen rn (48 + k)
          have ld := HL1.out _ hkp
          have lc : wr.cell? ⟨b1, o1 + k, none⟩ = some (.int .u8 (m (48 + k))) := by
            obtain ⟨b', o', e', _, _, h3⟩ := bys_at (HQ1.out _ hkp) (by omega)
            cases e'
            exact h3 k hlt
          have RN := hid rn
          have HK := hid hkp
          obtain ⟨M, eM⟩ : ∃ M, m (48 + k) = M := ⟨_, rfl⟩
          rw [eM] at lc
          have EM := hid eM
          clear rn hkp eM
          go_wp2
          go_roundw
          case rel =>
            refine ⟨k + 1, by omega, by go_num, HK.out.setCell _ _, (row_set RN.out _ _).trans (congrArg (fun c => some (Obj.cells c 53)) ?_)⟩
            refine Eq.trans ?_ ((cel_set (l := sValidator (⟨fun q => m (0 + q), fun q => if q < k then m (48 + q) else 0, 0, false, 0, 0, 0, 0⟩ : VValidator)) 1 32 k (fun q => if q < k then m (48 + q) else 0) M rfl hlt).trans ?_)
            · exact congrArg (fun j => (cel (sValidator (⟨fun q => m (0 + q), fun q => if q < k then m (48 + q) else 0, 0, false, 0, 0, 0, 0⟩ : VValidator))).setIfInBounds j (Value.int .u8 M)) (show 48 + k = 48 + k by omega)
            · rw [← EM.out, up_step]
              rfl
          case measure => simp [intOf]; omega
        · obtain rfl : k = 32 := by omega
          have bq : decide (32 < 32) = false := by decide
          have RV2 : Hid (wr.heap[g]? = some (.cells (cel (sValidator (⟨fun q => m (0 + q), fun q => m (48 + q), 0, false, 0, 0, 0, 0⟩ : VValidator))) 53)) := rn.trans (congrArg (fun c => some (Obj.cells c 53)) (by kernel_rfl))
          have KV2 := hid hkp
          clear rn hkp bq hk hlt
          obtain ⟨V2, hV⟩ : ∃ V, wr = V := ⟨_, rfl⟩
          subst hV
          have ld := HL2.out _ KV2.out
          have cs : wr.cell? ⟨g, 80, none⟩ = some (.int .u64 0) := (row_cell RV2.out _).trans (cel_at (sValidator (⟨fun q => m (0 + q), fun q => m (48 + q), 0, false, 0, 0, 0, 0⟩ : VValidator)) 2 0 (Seg.nu 0) rfl (by show 0 < 1; omega))
          have fs := row_frozen RV2.out 80
          go_upto_region 14 with (go_at_call 60; refine (HN2.out _ KV2.out).mono ?_; rintro e w2 ⟨rfl, hw⟩; obtain rfl := hw.symm)
          obtain ⟨V3, hV⟩ : ∃ V, wr.setCell ⟨g, 80, none⟩ (.int .u64 N2) = V := ⟨_, rfl⟩
          have RV3 : Hid (V3.heap[g]? = some (.cells (cel (sValidator (⟨fun q => m (0 + q), fun q => m (48 + q), N2, false, 0, 0, 0, 0⟩ : VValidator))) 53)) := by rw [← hV]; exact (row_set RV2.out _ _).trans (congrArg (fun c => some (Obj.cells c 53)) (by kernel_rfl))
          have KV3 : Hid (Kept g w1 V3) := by rw [← hV]; exact KV2.out.setCell _ _
          rw [hV]
          clear hV ld cs fs
          have ld := HL3.out _ KV3.out
          have cs : V3.cell? ⟨g, 81, none⟩ = some (.bool false) := (row_cell RV3.out _).trans (cel_at (sValidator (⟨fun q => m (0 + q), fun q => m (48 + q), N2, false, 0, 0, 0, 0⟩ : VValidator)) 3 0 (Seg.bo false) rfl (by show 0 < 1; omega))
          have fs := row_frozen RV3.out 81
          go_upto_region 15 with (go_at_call 65; refine (HN3.out _ KV3.out).mono ?_; rintro e w2 ⟨rfl, hw⟩; obtain rfl := hw.symm)
          obtain ⟨V4, hV⟩ : ∃ V, V3.setCell ⟨g, 81, none⟩ (.bool false) = V := ⟨_, rfl⟩
          have KV4 : Hid (Kept g w1 V4) := by rw [← hV]; exact KV3.out.setCell _ _
          rw [hV]
          clear hV ld cs fs
          have z3 := Z3.out
          have e0 := EG.out
          have e2 := HB1.out.size
          have rr : V4.heap[y]? = some (.cells (cel (sValidator oValidator)) 53) := (KV4.out.block y (by omega) (by omega)).trans ((HB1.out.block y (by omega)).trans R1.out)
          have sv := svValidator_run rr oValidator
          have bd := bdValidator_0
          have RR := hid rr
          clear rr z3 e0 e2
          go_wp2
          refine retValidator _ _ y oValidator 53 _ rfl rfl rfl rfl (setRow_at RR.out) ⟨rfl, ?_⟩
          have e0 := EY.out
          have e1 := HB3.out.size
          have e2 := HB1.out.size
          have e3 := EG.out
          have z3 := Z3.out
          exact below_row (HB3.out.trans ((HB1.out.mono (by omega)).trans (KV4.out.below (by omega) (by omega)))) (by omega) _

end Go.Proofs.YtaodonmbanpieaaDoor
