/-
  What the reference's Enc, Root and Read answer.
-/
import Derived.Test.YtokbhcgooboocaaGreatDoorCoAp
import Derived.Test.YtokbhcgooboocaaGreatDoorCoBp
import Derived.Test.YtokbhcgooboocaaGreatDoorCoCp
import Derived.Test.YtokbhcgooboocaaGreatDoorTrCheckpointp
namespace Go.Proofs.YtokbhcgooboocaaGreatDoor
open Go.RowKit
set_option linter.unusedVariables false
set_option linter.unusedSimpArgs false

attribute [local go_sem ↓] sv24_eq lv24_eq ix22_eq slr_eq bd27_eq bs22_eq bsP_eq bsI_eq lvCheckpoint_eq

set_option maxRecDepth 20000 in
set_option maxHeartbeats 2000000 in
theorem rencData_any (x : VData) (w : World) (hx : OkData x) :
    Calls Tryz.prog 30 #[.agg (cel (sData x))] w fun e w' => ∃ v, e = .returned (.tuple #[v, .int .i64 0]) ∧ w'.ownsRow w.heap.size 5 1 v 128 (bl (ct7 (eData x)) 128) ∧ Below w.heap.size w w' := by
  have HX := hid hx
  obtain ⟨W0, hW0⟩ : ∃ W, w.alloc (.cells (cel (sData x)) 29) = W := ⟨_, rfl⟩
  have hB0 : Below w.heap.size w W0 := by rw [← hW0]; exact (Below.refl _ _).alloc (Nat.le_refl _) _
  have r0 : W0.heap[w.heap.size]? = some (.cells (cel (sData x)) 29) := by rw [← hW0]; exact heap_new rfl
  have z0 : w.heap.size < W0.heap.size := by rw [← hW0]; simp
  obtain ⟨y, ey⟩ : ∃ y, w.heap.size = y := ⟨_, rfl⟩
  have hry : ∀ X, Below W0.heap.size W0 X → X.heap[y]? = some (.cells (cel (sData x)) 29) := fun X h => by rw [← ey]; exact (h.block _ z0).trans r0
  have HL0 : Hid (∀ X, Below W0.heap.size W0 X → X.cell? ⟨y, 0, none⟩ = some (.int .u64 x.f0)) := fun X h => seg_nu (hry X h) 0 x.f0 rfl 0 rfl
  have HL1 : Hid (∀ X, Below W0.heap.size W0 X → X.cell? ⟨y, 1, none⟩ = some (.int .u64 x.f1)) := fun X h => seg_nu (hry X h) 1 x.f1 rfl 1 rfl
  have HB2 : Hid (∀ X, Below W0.heap.size W0 X → Bys X (some ⟨y, 2, none⟩) 32 32 x.f2) := fun X h => seg_bys (hry X h) 2 32 x.f2 rfl 2 rfl (by omega)
  have HL3 : Hid (∀ X, Below W0.heap.size W0 X → (lvCheckpoint ⟨y, 34, none⟩).run Tryz.prog X = .ok (.agg (cel (sCheckpoint x.f3))) X) := fun X h => lvCheckpoint_mid (hry X h) 34 rfl rfl
  have HL4 : Hid (∀ X, Below W0.heap.size W0 X → (lvCheckpoint ⟨y, 67, none⟩).run Tryz.prog X = .ok (.agg (cel (sCheckpoint x.f4))) X) := fun X h => lvCheckpoint_mid (hry X h) 67 rfl rfl
  have S0 := hid (Below.refl W0.heap.size W0)
  have HB0w := hid hB0
  have EY := hid ey
  clear hB0 r0 hry hx
  go_enter Tryz.func30, Tryz.ntmps30
  go_upto_region 7 with fail
  clear hW0 ey z0
  have ld0 := HL0.out _ S0.out
  go_upto_region 8 with (go_at_call 66; refine (rnumber7 x.f0 _ HX.out.1.1 HX.out.1.2).mono ?_; rintro e X1 ⟨v1, rfl, ho1, hb1⟩)
  obtain ⟨a1, c1, rfl, hr1⟩ := own_at ho1
  clear ho1 ld0
  have S1 := hid (S0.out.trans (hb1.mono S0.out.size))
  have R0 := hid (show ∀ X, Below X1.heap.size X1 X → Bys X a1 8 c1 (nmB x.f0) from fun X h => hr1.below h)
  clear hb1 hr1
  have ld1 := HL1.out _ S1.out
  go_upto_region 9 with (go_at_call 66; refine (rnumber7 x.f1 _ HX.out.2.1.1 HX.out.2.1.2).mono ?_; rintro e X2 ⟨v2, rfl, ho2, hb2⟩)
  obtain ⟨a2, c2, rfl, hr2⟩ := own_at ho2
  clear ho2 ld1
  have S2 := hid (S1.out.trans (hb2.mono S1.out.size))
  have K1 := hid (show Below X1.heap.size X1 X2 from hb2)
  have R1 := hid (show ∀ X, Below X2.heap.size X2 X → Bys X a2 8 c2 (nmB x.f1) from fun X h => hr2.below h)
  clear hb2 hr2
  go_upto_region 10 with (at_builtin; refine wpList_append_bys _ rfl _ _ rfl X2.heap.size _ 0 [] rfl (World.ownsRow_made _ #[] 0 (Nat.le_refl _) (Nat.zero_le _) rfl) _ 32 32 x.f2 rfl (HB2.out _ (S2.out.alloc S2.out.size _)) (by omega) (by simp) ?_; intro v3 X3 ho3 hg3; rw [Nat.zero_add, List.nil_append] at ho3)
  have hb3 := below_grown ((Below.refl X2.heap.size X2).alloc (Nat.le_refl _) (.cells #[] 5)) (World.ownsRow_made _ #[] 0 (Nat.le_refl _) (Nat.zero_le _) rfl) (by simp) hg3
  obtain ⟨a3, c3, rfl, hr3⟩ := own_at ho3
  clear hg3 ho3
  have S3 := hid (S2.out.trans (hb3.mono S2.out.size))
  replace K1 := hid (K1.out.trans (hb3.mono K1.out.size))
  have K2 := hid (show Below X2.heap.size X2 X3 from hb3)
  have R2 := hid (show ∀ X, Below X3.heap.size X3 X → Bys X a3 32 c3 (x.f2) from fun X h => hr3.below h)
  clear hb3 hr3
  have ld3 := HL3.out _ S3.out
  go_upto_region 13 with (go_at_call 67; refine (rencCheckpoint_any x.f3 _ HX.out.2.2.2.1).mono ?_; rintro e X4 ⟨v4, rfl, ho4, hb4⟩)
  obtain ⟨a4, c4, rfl, hr4⟩ := own_at ho4
  clear ho4 ld3
  have S4 := hid (S3.out.trans (hb4.mono S3.out.size))
  replace K1 := hid (K1.out.trans (hb4.mono K1.out.size))
  replace K2 := hid (K2.out.trans (hb4.mono K2.out.size))
  have K3 := hid (show Below X3.heap.size X3 X4 from hb4)
  have R3 := hid (show ∀ X, Below X4.heap.size X4 X → Bys X a4 40 c4 (ct7 (eCheckpoint x.f3)) from fun X h => hr4.below h)
  clear hb4 hr4
  have ld4 := HL4.out _ S4.out
  go_upto_region 16 with (go_at_call 67; refine (rencCheckpoint_any x.f4 _ HX.out.2.2.2.2).mono ?_; rintro e X5 ⟨v5, rfl, ho5, hb5⟩)
  obtain ⟨a5, c5, rfl, hr5⟩ := own_at ho5
  clear ho5 ld4
  have S5 := hid (S4.out.trans (hb5.mono S4.out.size))
  replace K1 := hid (K1.out.trans (hb5.mono K1.out.size))
  replace K2 := hid (K2.out.trans (hb5.mono K2.out.size))
  replace K3 := hid (K3.out.trans (hb5.mono K3.out.size))
  have K4 := hid (show Below X4.heap.size X4 X5 from hb5)
  have R4 := hid (show ∀ X, Below X5.heap.size X5 X → Bys X a5 40 c5 (ct7 (eCheckpoint x.f4)) from fun X h => hr5.below h)
  clear hb5 hr5
  obtain ⟨ps, eps⟩ : ∃ ps : List Pt, ([(a1, 8, c1, nmB x.f0), (a2, 8, c2, nmB x.f1), (a3, 32, c3, x.f2), (a4, 40, c4, ct7 (eCheckpoint x.f3)), (a5, 40, c5, ct7 (eCheckpoint x.f4))] : List Pt) = ps := ⟨_, rfl⟩
  obtain ⟨Y1, hY1⟩ : ∃ Y, X5.alloc (.cells (ps.map ptv).toArray 34) = Y := ⟨_, rfl⟩
  obtain ⟨Y2, hY2⟩ : ∃ Y, Y1.alloc (.cells (vs .i64 5 zData) 3) = Y := ⟨_, rfl⟩
  have hy1 : Below X5.heap.size X5 Y1 := by rw [← hY1]; exact (Below.refl _ _).alloc (Nat.le_refl _) _
  have hy2 : Below X5.heap.size X5 Y2 := by rw [← hY2]; exact hy1.alloc hy1.size _
  have g1 : Y2.heap[X5.heap.size]? = some (.cells (ps.map ptv).toArray 34) := by
    rw [← hY2, ← hY1]
    exact (heap_old (by simp)).trans (heap_new rfl)
  have g2 : Y2.heap[Y1.heap.size]? = some (.cells (vs .i64 5 zData) 3) := by rw [← hY2]; exact heap_new rfl
  have bs1 := bsP_5 X5 (a1, 8, c1, nmB x.f0) (a2, 8, c2, nmB x.f1) (a3, 32, c3, x.f2) (a4, 40, c4, ct7 (eCheckpoint x.f3)) (a5, 40, c5, ct7 (eCheckpoint x.f4))
  have bs2 := bsI_Data Y1
  have hla := rlay7 ps zData 5 X5.heap.size Y1.heap.size Y2 (by rw [← eps]; rfl) g1 g2 (fun r hr => by
    rw [← eps]
    rcases (by omega : r = 0 ∨ r = 1 ∨ r = 2 ∨ r = 3 ∨ r = 4) with rfl | rfl | rfl | rfl | rfl
    · exact R0.out _ (K1.out.trans (hy2.mono K1.out.size))
    · exact R1.out _ (K2.out.trans (hy2.mono K2.out.size))
    · exact R2.out _ (K3.out.trans (hy2.mono K3.out.size))
    · exact R3.out _ (K4.out.trans (hy2.mono K4.out.size))
    · exact R4.out _ hy2
    ) (fun r hr => by
    rw [← eps]
    rcases (by omega : r = 0 ∨ r = 1 ∨ r = 2 ∨ r = 3 ∨ r = 4) with rfl | rfl | rfl | rfl | rfl
    all_goals exact ⟨rfl, Nat.le_of_ble_eq_true rfl, Nat.le_of_ble_eq_true rfl⟩) (by omega) (by omega) (by rw [← eps]; exact Nat.le_of_ble_eq_true rfl)
  have e1 : ln7 (ps.map ptb) = 128 := by rw [← eps]; rfl
  have e2 : ct7 (ps.map ptb) = ct7 (eData x) := by rw [← eps]; rfl
  rw [e1, e2] at hla
  rw [eps, hY1] at bs1
  rw [hY2] at bs2
  obtain ⟨u1, eu1⟩ : ∃ u, X5.heap.size = u := ⟨_, rfl⟩
  obtain ⟨u2, eu2⟩ : ∃ u, Y1.heap.size = u := ⟨_, rfl⟩
  rw [eu1] at bs1 hla
  rw [eu2] at bs2 hla
  replace bs1 : (bsP 5 #[(0, Value.slice a1 8 c1), (1, Value.slice a2 8 c2), (2, Value.slice a3 32 c3), (3, Value.slice a4 40 c4), (4, Value.slice a5 40 c5)]).run Tryz.prog X5 = .ok (.slice (some ⟨u1, 0, none⟩) 5 5) Y1 := bs1
  have HLA := hid hla
  have HY2 := hid hy2
  clear hla hy1 hy2 g1 g2 e1 e2 eps hY1 hY2 eu1 eu2
  go_wp2_with (go_at_call 31; refine HLA.out.mono ?_; rintro e Y ⟨v, rfl, ho, hbY⟩)
  go_ret2
  have e0 := EY.out
  have e1 := HB0w.out.size
  have e2 := S5.out.size
  have e3 := HY2.out.size
  exact ⟨v, rfl, (ho.mono (by omega) : _), HB0w.out.trans ((S5.out.mono (by omega)).trans ((HY2.out.mono (by omega)).trans (hbY.mono (by omega))))⟩

set_option maxRecDepth 20000 in
set_option maxHeartbeats 2000000 in
theorem rrootData_any (x : VData) (w : World) (hx : OkData x) (hC : Rc w) :
    Calls Tryz.prog 36 #[.agg (cel (sData x))] w fun e w' => e = .returned (.tuple #[.agg (vs .u8 32 (hData x)), .int .i64 0]) ∧ Below w.heap.size w w' := by
  have z := zero_root
  have zc : ∀ W : World, (zeroValue 105).run Tryz.prog W = .ok (.agg (vs .u8 160 (fl7 [fun _ => 0, fun _ => 0, fun _ => 0, fun _ => 0, fun _ => 0]))) W := (zero_of_info (n := 160) (by kernel_rfl)).1
  obtain ⟨y, ey⟩ : ∃ y, w.heap.size = y := ⟨_, rfl⟩
  obtain ⟨W1, hW1⟩ : ∃ W, w.alloc (.cells (cel (sData x)) 29) = W := ⟨_, rfl⟩
  obtain ⟨W2, hW2⟩ : ∃ W, W1.alloc (.cells (vs .u8 32 fun _ => 0) 25) = W := ⟨_, rfl⟩
  obtain ⟨V0, hV0⟩ : ∃ W, W2.alloc (.cells (vs .u8 160 (fl7 [fun _ => 0, fun _ => 0, fun _ => 0, fun _ => 0, fun _ => 0])) 105) = W := ⟨_, rfl⟩
  have z1 : W1.heap.size = y + 1 := by rw [← hW1, ← ey]; simp
  have z2 : W2.heap.size = y + 2 := by rw [← hW2]; simp [z1]
  have z3 : V0.heap.size = y + 3 := by rw [← hV0]; simp [z2]
  have hB0 : Below w.heap.size w V0 := by rw [← hV0, ← hW2, ← hW1]; exact (((Below.refl _ _).alloc (Nat.le_refl _) _).alloc (by simp) _).alloc (by simp; omega) _
  have r1 : V0.heap[y]? = some (.cells (cel (sData x)) 29) := by rw [← hV0]; refine (heap_old (by omega)).trans ?_; rw [← hW2]; refine (heap_old (by omega)).trans ?_; rw [← hW1]; exact heap_new ey.symm
  have r2 : V0.heap[y + 1]? = some (.cells (vs .u8 32 fun _ => 0) 25) := by rw [← hV0]; refine (heap_old (by omega)).trans ?_; rw [← hW2]; exact heap_new z1.symm
  have r3 : V0.heap[y + 2]? = some (.cells (vs .u8 (32 * 5) (fl7 [fun _ => 0, fun _ => 0, fun _ => 0, fun _ => 0, fun _ => 0])) 105) := by rw [← hV0]; exact heap_new z2.symm
  have hry : ∀ X, Below (y + 2) V0 X → X.heap[y]? = some (.cells (cel (sData x)) 29) := fun X h => (h.block _ (by omega)).trans r1
  have hrr : ∀ X, Below (y + 2) V0 X → X.heap[y + 1]? = some (.cells (vs .u8 32 fun _ => 0) 25) := fun X h => (h.block _ (by omega)).trans r2
  have hRc : ∀ X, Below (y + 2) V0 X → Rc X := fun X h => hC.below (hB0.trans (h.mono (by omega)))
  have hc0 : ∀ X a c, Below (y + 2) V0 X → Bys X a 8 c (nmB x.f0) → Calls Tryz.prog 74 #[.slice a 8 c] X fun e w' => e = .returned (.agg (vs .u8 32 (bR (nmB x.f0) 8))) ∧ Below X.heap.size X w' := fun X a c h hb => chunk7 a 8 c (nmB x.f0) X (hRc X h) hb (by omega) (by omega) (fun j _ => nmB_bd _ j)
  have HL0 : Hid (∀ X, Below (y + 2) V0 X → X.cell? ⟨y, 0, none⟩ = some (.int .u64 x.f0)) := fun X h => seg_nu (hry X h) 0 x.f0 rfl 0 rfl
  have hd0 : ∀ j, j < 32 → 0 ≤ (bR (nmB x.f0) 8) j ∧ (bR (nmB x.f0) 8) j < 256 := fun j hj => treeV_bd (pk_bd (fun j _ => nmB_bd _ j) _) _ j hj
  have hc1 : ∀ X a c, Below (y + 2) V0 X → Bys X a 8 c (nmB x.f1) → Calls Tryz.prog 74 #[.slice a 8 c] X fun e w' => e = .returned (.agg (vs .u8 32 (bR (nmB x.f1) 8))) ∧ Below X.heap.size X w' := fun X a c h hb => chunk7 a 8 c (nmB x.f1) X (hRc X h) hb (by omega) (by omega) (fun j _ => nmB_bd _ j)
  have HL1 : Hid (∀ X, Below (y + 2) V0 X → X.cell? ⟨y, 1, none⟩ = some (.int .u64 x.f1)) := fun X h => seg_nu (hry X h) 1 x.f1 rfl 1 rfl
  have hd1 : ∀ j, j < 32 → 0 ≤ (bR (nmB x.f1) 8) j ∧ (bR (nmB x.f1) 8) j < 256 := fun j hj => treeV_bd (pk_bd (fun j _ => nmB_bd _ j) _) _ j hj
  have HL2 : Hid (∀ X, Below (y + 2) V0 X → (lv24 ⟨y, 2, none⟩).run Tryz.prog X = .ok (.agg (vs .u8 32 x.f2)) X) := fun X h => lv24_mid (fun j hj => by
    rw [row_cell (hry X h)]
    exact cel_at (sData x) 2 j (Seg.by 32 x.f2) rfl hj)
  have hd2 : ∀ j, j < 32 → 0 ≤ x.f2 j ∧ x.f2 j < 256 := hx.2.2.1
  have HL3 : Hid (∀ X, Below (y + 2) V0 X → (lvCheckpoint ⟨y, 34, none⟩).run Tryz.prog X = .ok (.agg (cel (sCheckpoint x.f3))) X) := fun X h => lvCheckpoint_mid (hry X h) 34 rfl rfl
  have hc3 : ∀ X, Below (y + 2) V0 X → Calls Tryz.prog 75 #[.agg (cel (sCheckpoint x.f3))] X fun e w' => e = .returned (.tuple #[.agg (vs .u8 32 (hCheckpoint x.f3)), .int .i64 0]) ∧ Below X.heap.size X w' := fun X h => rrootCheckpoint_any x.f3 X hx.2.2.2.1 (hRc X h)
  have hd3 : ∀ j, j < 32 → 0 ≤ (hCheckpoint x.f3) j ∧ (hCheckpoint x.f3) j < 256 := fun j hj => hCheckpoint_bd hx.2.2.2.1 j hj
  have HL4 : Hid (∀ X, Below (y + 2) V0 X → (lvCheckpoint ⟨y, 67, none⟩).run Tryz.prog X = .ok (.agg (cel (sCheckpoint x.f4))) X) := fun X h => lvCheckpoint_mid (hry X h) 67 rfl rfl
  have hc4 : ∀ X, Below (y + 2) V0 X → Calls Tryz.prog 75 #[.agg (cel (sCheckpoint x.f4))] X fun e w' => e = .returned (.tuple #[.agg (vs .u8 32 (hCheckpoint x.f4)), .int .i64 0]) ∧ Below X.heap.size X w' := fun X h => rrootCheckpoint_any x.f4 X hx.2.2.2.2 (hRc X h)
  have hd4 : ∀ j, j < 32 → 0 ≤ (hCheckpoint x.f4) j ∧ (hCheckpoint x.f4) j < 256 := fun j hj => hCheckpoint_bd hx.2.2.2.2 j hj
  have eh : ∀ j, j < 32 → treeV (fl7 [bR (nmB x.f0) 8, bR (nmB x.f1) 8, x.f2, hCheckpoint x.f3, hCheckpoint x.f4]) 5 (5 : Nat) j = hData x j := fun j hj => treeV_congr (fun q hq => by
    unfold fl7
    have hq5 := Nat.mod_lt q (show 0 < 32 by omega)
    rcases (by omega : q / 32 = 0 ∨ q / 32 = 1 ∨ q / 32 = 2 ∨ q / 32 = 3 ∨ q / 32 = 4) with e | e | e | e | e
    · first | (rw [e]; done) | (rw [e]; rfl)
    · first | (rw [e]; done) | (rw [e]; rfl)
    · rw [e]; exact (bR_32 x.f2 _ hq5).symm
    · first | (rw [e]; done) | (rw [e]; rfl)
    · first | (rw [e]; done) | (rw [e]; rfl)
    ) _ j hj
  obtain ⟨C0, eC0⟩ : ∃ C, bR (nmB x.f0) 8 = C := ⟨_, rfl⟩
  rw [eC0] at hd0 hc0
  simp only [eC0] at eh
  have HC0 := hid hc0
  obtain ⟨C1, eC1⟩ : ∃ C, bR (nmB x.f1) 8 = C := ⟨_, rfl⟩
  rw [eC1] at hd1 hc1
  simp only [eC1] at eh
  have HC1 := hid hc1
  obtain ⟨C2, eC2⟩ : ∃ C, x.f2 = C := ⟨_, rfl⟩
  rw [eC2] at hd2 HL2
  simp only [eC2] at eh
  obtain ⟨C3, eC3⟩ : ∃ C, hCheckpoint x.f3 = C := ⟨_, rfl⟩
  rw [eC3] at hd3 hc3
  simp only [eC3] at eh
  have HC3 := hid hc3
  obtain ⟨C4, eC4⟩ : ∃ C, hCheckpoint x.f4 = C := ⟨_, rfl⟩
  rw [eC4] at hd4 hc4
  simp only [eC4] at eh
  have HC4 := hid hc4
  have hmu : ∀ X, Below (y + 2) V0 X → X.heap[y + 2]? = some (.cells (vs .u8 (32 * 5) (fl7 [C0, C1, C2, C3, C4])) 105) → Calls Tryz.prog 33 #[.slice (some ⟨y + 2, 0, none⟩) 5 5, .int .i64 5] X fun e w' => e = .returned (.agg (vs .u8 32 (hData x))) ∧ Below X.heap.size X w' := fun X h h2 => by
    have := must7 (some ⟨y + 2, 0, none⟩) 5 5 (fl7 [C0, C1, C2, C3, C4]) (5 : Nat) X (hRc X h) (rts_row h2) (by omega) (fl7_bd (fun c hc => by
      simp only [List.mem_cons, List.not_mem_nil, or_false] at hc
      rcases hc with rfl | rfl | rfl | rfl | rfl
      · exact hd0
      · exact hd1
      · exact hd2
      · exact hd3
      · exact hd4
      ) _) (by decide) (by decide) (by decide)
    rw [vs_congr (fun j hj => eh j hj)] at this
    exact this
  obtain ⟨D, eD⟩ : ∃ D, hData x = D := ⟨_, rfl⟩
  rw [eD] at hmu ⊢
  obtain ⟨u, eu⟩ : ∃ u, y + 2 = u := ⟨_, rfl⟩
  rw [eu] at hmu
  have HU := hid eu
  have HMU := hid hmu
  have HRR := hid hrr
  have HB0w := hid hB0
  have EY := hid ey
  have Z3 := hid z3
  have HX := hid hx
  have RV0 := hid r3
  have SV0 := hid (Below.refl (y + 2) V0)
  rw [eu] at RV0
  clear hmu hrr hB0 z3 r1 r2 r3 hry hRc hx hC eh eD hd0 eC0 hc0 hd1 eC1 hc1 hd2 eC2 hd3 eC3 hc3 hd4 eC4 hc4
  go_enter Tryz.func36, Tryz.ntmps36
  go_upto_region 3 with fail
  clear hW1 hW2 hV0 z1 z2 ey z zc
  try rw [eu]
  clear eu
  have ld := HL0.out _ SV0.out
  go_upto_region 4 with (first
    | (go_at_call 66; refine (rnumber7 x.f0 _ HX.out.1.1 HX.out.1.2).mono ?_; rintro e Y ⟨v, rfl, ho, hb⟩; obtain ⟨a, c, rfl, hr⟩ := own_at ho; clear ho; have SY := hid (SV0.out.trans (hb.mono (by have h1 := HU.out; have h2 := Z3.out; have h3 := SV0.out.size; omega))); have RY := hid ((hb.block _ (Array.getElem?_eq_some_iff.1 RV0.out).1).trans RV0.out); have CY := hid (HC0.out _ _ _ SY.out hr); clear hr hb)
    | (go_at_call 74; refine CY.out.mono ?_; rintro e X0 ⟨rfl, hb⟩; have sb := SY.out.trans (hb.mono (by have h1 := HU.out; have h2 := Z3.out; have h3 := SY.out.size; omega)); have rb := (hb.block _ (Array.getElem?_eq_some_iff.1 RY.out).1).trans RY.out; obtain ⟨sv, nr, nb⟩ := put7 (l := [fun _ => 0, fun _ => 0, fun _ => 0, fun _ => 0, fun _ => 0]) (n := 5) sb (by rw [← HU.out]; exact Nat.le_refl _) rb 0 C0 (by omega) rfl; have NR := hid nr; have NB := hid nb; clear nr nb sb rb hb))
  clear CY ld
  obtain ⟨V1, hV⟩ : ∃ V, X0.setCells u 0 (bl C0 32) = V := ⟨_, rfl⟩
  have RV1 : Hid (V1.heap[u]? = some (.cells (vs .u8 (32 * 5) (fl7 [C0, fun _ => 0, fun _ => 0, fun _ => 0, fun _ => 0])) 105)) := by rw [← hV]; exact NR.out
  have SV1 : Hid (Below (y + 2) V0 V1) := by rw [← hV]; exact NB.out
  rw [hV]
  clear hV NR NB sv
  have ld := HL1.out _ SV1.out
  go_upto_region 5 with (first
    | (go_at_call 66; refine (rnumber7 x.f1 _ HX.out.2.1.1 HX.out.2.1.2).mono ?_; rintro e Y ⟨v, rfl, ho, hb⟩; obtain ⟨a, c, rfl, hr⟩ := own_at ho; clear ho; have SY := hid (SV1.out.trans (hb.mono (by have h1 := HU.out; have h2 := Z3.out; have h3 := SV1.out.size; omega))); have RY := hid ((hb.block _ (Array.getElem?_eq_some_iff.1 RV1.out).1).trans RV1.out); have CY := hid (HC1.out _ _ _ SY.out hr); clear hr hb)
    | (go_at_call 74; refine CY.out.mono ?_; rintro e X1 ⟨rfl, hb⟩; have sb := SY.out.trans (hb.mono (by have h1 := HU.out; have h2 := Z3.out; have h3 := SY.out.size; omega)); have rb := (hb.block _ (Array.getElem?_eq_some_iff.1 RY.out).1).trans RY.out; obtain ⟨sv, nr, nb⟩ := put7 (l := [C0, fun _ => 0, fun _ => 0, fun _ => 0, fun _ => 0]) (n := 5) sb (by rw [← HU.out]; exact Nat.le_refl _) rb 1 C1 (by omega) rfl; have NR := hid nr; have NB := hid nb; clear nr nb sb rb hb))
  clear CY ld
  obtain ⟨V2, hV⟩ : ∃ V, X1.setCells u 32 (bl C1 32) = V := ⟨_, rfl⟩
  have RV2 : Hid (V2.heap[u]? = some (.cells (vs .u8 (32 * 5) (fl7 [C0, C1, fun _ => 0, fun _ => 0, fun _ => 0])) 105)) := by rw [← hV]; exact NR.out
  have SV2 : Hid (Below (y + 2) V0 V2) := by rw [← hV]; exact NB.out
  rw [hV]
  clear hV NR NB sv
  have ld := HL2.out _ SV2.out
  obtain ⟨sv, nr, nb⟩ := put7 (l := [C0, C1, fun _ => 0, fun _ => 0, fun _ => 0]) (n := 5) SV2.out (by rw [← HU.out]; exact Nat.le_refl _) RV2.out 2 C2 (by omega) rfl
  have NR := hid nr
  have NB := hid nb
  clear nr nb
  go_upto_region 6 with fail
  clear ld
  obtain ⟨V3, hV⟩ : ∃ V, V2.setCells u 64 (bl C2 32) = V := ⟨_, rfl⟩
  have RV3 : Hid (V3.heap[u]? = some (.cells (vs .u8 (32 * 5) (fl7 [C0, C1, C2, fun _ => 0, fun _ => 0])) 105)) := by rw [← hV]; exact NR.out
  have SV3 : Hid (Below (y + 2) V0 V3) := by rw [← hV]; exact NB.out
  rw [hV]
  clear hV NR NB sv
  have ld := HL3.out _ SV3.out
  go_upto_region 9 with (go_at_call 75; refine (HC3.out _ SV3.out).mono ?_; rintro e X3 ⟨rfl, hb⟩; have sb := SV3.out.trans (hb.mono (by have h1 := HU.out; have h2 := Z3.out; have h3 := SV3.out.size; omega)); have rb := (hb.block _ (Array.getElem?_eq_some_iff.1 RV3.out).1).trans RV3.out; obtain ⟨sv, nr, nb⟩ := put7 (l := [C0, C1, C2, fun _ => 0, fun _ => 0]) (n := 5) sb (by rw [← HU.out]; exact Nat.le_refl _) rb 3 C3 (by omega) rfl; have NR := hid nr; have NB := hid nb; clear nr nb sb rb hb)
  clear ld
  obtain ⟨V4, hV⟩ : ∃ V, X3.setCells u 96 (bl C3 32) = V := ⟨_, rfl⟩
  have RV4 : Hid (V4.heap[u]? = some (.cells (vs .u8 (32 * 5) (fl7 [C0, C1, C2, C3, fun _ => 0])) 105)) := by rw [← hV]; exact NR.out
  have SV4 : Hid (Below (y + 2) V0 V4) := by rw [← hV]; exact NB.out
  rw [hV]
  clear hV NR NB sv
  have ld := HL4.out _ SV4.out
  go_upto_region 12 with (go_at_call 75; refine (HC4.out _ SV4.out).mono ?_; rintro e X4 ⟨rfl, hb⟩; have sb := SV4.out.trans (hb.mono (by have h1 := HU.out; have h2 := Z3.out; have h3 := SV4.out.size; omega)); have rb := (hb.block _ (Array.getElem?_eq_some_iff.1 RV4.out).1).trans RV4.out; obtain ⟨sv, nr, nb⟩ := put7 (l := [C0, C1, C2, C3, fun _ => 0]) (n := 5) sb (by rw [← HU.out]; exact Nat.le_refl _) rb 4 C4 (by omega) rfl; have NR := hid nr; have NB := hid nb; clear nr nb sb rb hb)
  clear ld
  obtain ⟨V5, hV⟩ : ∃ V, X4.setCells u 128 (bl C4 32) = V := ⟨_, rfl⟩
  have RV5 : Hid (V5.heap[u]? = some (.cells (vs .u8 (32 * 5) (fl7 [C0, C1, C2, C3, C4])) 105)) := by rw [← hV]; exact NR.out
  have SV5 : Hid (Below (y + 2) V0 V5) := by rw [← hV]; exact NB.out
  rw [hV]
  clear hV NR NB sv
  have HM := hid (HMU.out _ (by have := SV5.out; rw [HU.out] at this; exact this) RV5.out)
  go_wp2_with (go_at_call 33; refine HM.out.mono ?_; rintro e Y ⟨rfl, hb⟩; have sy := SV5.out.trans (hb.mono (by have h1 := HU.out; have h2 := Z3.out; have h3 := SV5.out.size; omega)); have rY := HRR.out _ sy; have s1 := sv24_run rY D; have RY := hid rY; have SY := hid sy; clear rY sy hb)
  refine ret24s _ _ (y + 1) _ 25 _ rfl rfl rfl rfl (setRow_at RY.out) ⟨rfl, ?_⟩
  have e0 := EY.out
  exact below_row (HB0w.out.trans (SY.out.mono (by omega))) (by omega) _

end Go.Proofs.YtokbhcgooboocaaGreatDoor
namespace Go.Proofs.YtokbhcgooboocaaGreatDoor
open Go.RowKit
set_option linter.unusedVariables false
set_option linter.unusedSimpArgs false

attribute [local go_sem ↓] sv24_eq lv24_eq ix22_eq slr_eq bd27_eq bs22_eq mkI_eq ixI_eq ixP_eq bsP_eq bsI_eq lvCheckpoint_eq svCheckpoint_eq bdCheckpoint_eq lvData_eq svData_eq bdData_eq

set_option maxRecDepth 20000 in
set_option maxHeartbeats 2000000 in
theorem rreadData_ok (m : Nat → Int) (ao : Option Addr) (cap : Nat) (w : World) (hb : Bys w ao 128 cap m) (hm : ∀ j, 0 ≤ m j ∧ m j < 256) (hlc : 128 ≤ cap) (hcap : cap ≤ 9223372036854775807) :
    Calls Tryz.prog 42 #[.slice ao 128 cap] w fun e w' => e = .returned (.tuple #[.agg (cel (sData (pData m))), .int .i64 0]) ∧ Below w.heap.size w w' := by
  have z := zeroData
  obtain ⟨y, ey⟩ : ∃ y, w.heap.size = y := ⟨_, rfl⟩
  obtain ⟨W1, hW1⟩ : ∃ W, w.alloc (.cells (cel (sData oData)) 29) = W := ⟨_, rfl⟩
  obtain ⟨W2, hW2⟩ : ∃ W, W1.alloc (.cells (cel (sData oData)) 29) = W := ⟨_, rfl⟩
  obtain ⟨W3, hW3⟩ : ∃ W, W2.alloc (.cells (vs .i64 5 zData) 3) = W := ⟨_, rfl⟩
  have z1 : W1.heap.size = y + 1 := by rw [← hW1, ← ey]; simp
  have z2 : W2.heap.size = y + 2 := by rw [← hW2]; simp [z1]
  have z3 : W3.heap.size = y + 3 := by rw [← hW3]; simp [z2]
  have hB3 : Below w.heap.size w W3 := by rw [← hW3, ← hW2, ← hW1]; exact (((Below.refl _ _).alloc (Nat.le_refl _) _).alloc (by simp) _).alloc (by simp; omega) _
  have r1 : W3.heap[y]? = some (.cells (cel (sData oData)) 29) := by rw [← hW3]; refine (heap_old (by omega)).trans ?_; rw [← hW2]; refine (heap_old (by omega)).trans ?_; rw [← hW1]; exact heap_new ey.symm
  have r2 : W3.heap[y + 1]? = some (.cells (cel (sData oData)) 29) := by rw [← hW3]; refine (heap_old (by omega)).trans ?_; rw [← hW2]; exact heap_new z1.symm
  have g3 : W3.heap[y + 2]? = some (.cells (vs .i64 5 zData) 3) := by rw [← hW3]; exact heap_new z2.symm
  have bsi := bsI_Data W2
  rw [hW3, z2] at bsi
  have hcut := rcut7_ok fixData m ao cap (y + 2) W3 (hb.below hB3) hm (by omega) hlc hcap g3 (by omega) zposData (by omega)
  obtain ⟨g, eg⟩ : ∃ g, y + 1 = g := ⟨_, rfl⟩
  obtain ⟨u, eu⟩ : ∃ u, y + 2 = u := ⟨_, rfl⟩
  rw [eu] at bsi hcut
  rw [eg] at r2
  have HCUT := hid hcut
  have R1 := hid r1
  have R2 := hid r2
  have HB3 := hid hB3
  have EY := hid ey
  have EG := hid eg
  have Z3 := hid z3
  clear hcut r1 r2 hB3 g3 z3 hlc hcap hb
  go_enter Tryz.func42, Tryz.ntmps42
  go_upto_region 3 with (go_at_call 40; refine HCUT.out.mono ?_; rintro e w1 ⟨gp, o, cp, rfl, hgp, hcu, hb1⟩)
  clear hW1 hW2 hW3 ey eg eu bsi z1 z2 z
  have z3 := Z3.out
  have e0 := EG.out
  have hgw : g < w1.heap.size := by have := hb1.size; omega
  have rx : w1.heap[g]? = some (.cells (cel (sData oData)) 29) := (hb1.block g (by omega)).trans R2.out
  obtain ⟨b0, o0, c0, l0, q0, f0⟩ := hcu 0 (by omega)
  replace l0 : w1.cell? ⟨gp, o + 0, none⟩ = some (.slice (some ⟨b0, o0, none⟩) 8 c0) := l0
  replace q0 : Bys w1 (some ⟨b0, o0, none⟩) 8 c0 (fun q => m (0 + q)) := q0
  obtain ⟨P0, eP0⟩ : ∃ P, o + 0 = P := ⟨_, rfl⟩
  rw [eP0] at l0
  have ix0 : ∀ X : World, (ixP (.slice (some ⟨gp, o, none⟩) 5 cp) (.int .i64 0)).run Tryz.prog X = .ok (.pointer (some ⟨gp, P0, none⟩)) X := fun X => by rw [← eP0]; exact ixP_run X gp o 5 cp 0 (by omega)
  have hne : gp ≠ g := cel_no rx l0
  have nb0 : b0 ≠ g := by omega
  have HQ0 : Hid (∀ X, Kept g w1 X → Bys X (some ⟨b0, o0, none⟩) 8 c0 (fun q => m (0 + q))) := fun X h => by
    obtain ⟨b', o', e', h1, h2, h3⟩ := bys_at q0 (by omega)
    cases e'
    exact .inr (.inr ⟨_, _, rfl, h2, bys_cap q0 (by omega), Nat.lt_of_lt_of_le h1 h.size, fun j hj => (h.cell h1 nb0).trans (h3 j hj)⟩)
  have HL0 : Hid (∀ X, Kept g w1 X → X.cell? ⟨gp, P0, none⟩ = some (.slice (some ⟨b0, o0, none⟩) 8 c0)) := fun X h => (h.cell hgp hne).trans l0
  clear hne
  obtain ⟨b1, o1, c1, l1, q1, f1⟩ := hcu 1 (by omega)
  replace l1 : w1.cell? ⟨gp, o + 1, none⟩ = some (.slice (some ⟨b1, o1, none⟩) 8 c1) := l1
  replace q1 : Bys w1 (some ⟨b1, o1, none⟩) 8 c1 (fun q => m (8 + q)) := q1
  obtain ⟨P1, eP1⟩ : ∃ P, o + 1 = P := ⟨_, rfl⟩
  rw [eP1] at l1
  have ix1 : ∀ X : World, (ixP (.slice (some ⟨gp, o, none⟩) 5 cp) (.int .i64 1)).run Tryz.prog X = .ok (.pointer (some ⟨gp, P1, none⟩)) X := fun X => by rw [← eP1]; exact ixP_run X gp o 5 cp 1 (by omega)
  have hne : gp ≠ g := cel_no rx l1
  have nb1 : b1 ≠ g := by omega
  have HQ1 : Hid (∀ X, Kept g w1 X → Bys X (some ⟨b1, o1, none⟩) 8 c1 (fun q => m (8 + q))) := fun X h => by
    obtain ⟨b', o', e', h1, h2, h3⟩ := bys_at q1 (by omega)
    cases e'
    exact .inr (.inr ⟨_, _, rfl, h2, bys_cap q1 (by omega), Nat.lt_of_lt_of_le h1 h.size, fun j hj => (h.cell h1 nb1).trans (h3 j hj)⟩)
  have HL1 : Hid (∀ X, Kept g w1 X → X.cell? ⟨gp, P1, none⟩ = some (.slice (some ⟨b1, o1, none⟩) 8 c1)) := fun X h => (h.cell hgp hne).trans l1
  clear hne
  obtain ⟨b2, o2, c2, l2, q2, f2⟩ := hcu 2 (by omega)
  replace l2 : w1.cell? ⟨gp, o + 2, none⟩ = some (.slice (some ⟨b2, o2, none⟩) 32 c2) := l2
  replace q2 : Bys w1 (some ⟨b2, o2, none⟩) 32 c2 (fun q => m (16 + q)) := q2
  obtain ⟨P2, eP2⟩ : ∃ P, o + 2 = P := ⟨_, rfl⟩
  rw [eP2] at l2
  have ix2 : ∀ X : World, (ixP (.slice (some ⟨gp, o, none⟩) 5 cp) (.int .i64 2)).run Tryz.prog X = .ok (.pointer (some ⟨gp, P2, none⟩)) X := fun X => by rw [← eP2]; exact ixP_run X gp o 5 cp 2 (by omega)
  have hne : gp ≠ g := cel_no rx l2
  have nb2 : b2 ≠ g := by omega
  have HQ2 : Hid (∀ X, Kept g w1 X → Bys X (some ⟨b2, o2, none⟩) 32 c2 (fun q => m (16 + q))) := fun X h => by
    obtain ⟨b', o', e', h1, h2, h3⟩ := bys_at q2 (by omega)
    cases e'
    exact .inr (.inr ⟨_, _, rfl, h2, bys_cap q2 (by omega), Nat.lt_of_lt_of_le h1 h.size, fun j hj => (h.cell h1 nb2).trans (h3 j hj)⟩)
  have HL2 : Hid (∀ X, Kept g w1 X → X.cell? ⟨gp, P2, none⟩ = some (.slice (some ⟨b2, o2, none⟩) 32 c2)) := fun X h => (h.cell hgp hne).trans l2
  clear hne
  obtain ⟨b3, o3, c3, l3, q3, f3⟩ := hcu 3 (by omega)
  replace l3 : w1.cell? ⟨gp, o + 3, none⟩ = some (.slice (some ⟨b3, o3, none⟩) 40 c3) := l3
  replace q3 : Bys w1 (some ⟨b3, o3, none⟩) 40 c3 (fun q => m (48 + q)) := q3
  obtain ⟨P3, eP3⟩ : ∃ P, o + 3 = P := ⟨_, rfl⟩
  rw [eP3] at l3
  have ix3 : ∀ X : World, (ixP (.slice (some ⟨gp, o, none⟩) 5 cp) (.int .i64 3)).run Tryz.prog X = .ok (.pointer (some ⟨gp, P3, none⟩)) X := fun X => by rw [← eP3]; exact ixP_run X gp o 5 cp 3 (by omega)
  have hne : gp ≠ g := cel_no rx l3
  have nb3 : b3 ≠ g := by omega
  have HQ3 : Hid (∀ X, Kept g w1 X → Bys X (some ⟨b3, o3, none⟩) 40 c3 (fun q => m (48 + q))) := fun X h => by
    obtain ⟨b', o', e', h1, h2, h3⟩ := bys_at q3 (by omega)
    cases e'
    exact .inr (.inr ⟨_, _, rfl, h2, bys_cap q3 (by omega), Nat.lt_of_lt_of_le h1 h.size, fun j hj => (h.cell h1 nb3).trans (h3 j hj)⟩)
  have HL3 : Hid (∀ X, Kept g w1 X → X.cell? ⟨gp, P3, none⟩ = some (.slice (some ⟨b3, o3, none⟩) 40 c3)) := fun X h => (h.cell hgp hne).trans l3
  clear hne
  obtain ⟨b4, o4, c4, l4, q4, f4⟩ := hcu 4 (by omega)
  replace l4 : w1.cell? ⟨gp, o + 4, none⟩ = some (.slice (some ⟨b4, o4, none⟩) 40 c4) := l4
  replace q4 : Bys w1 (some ⟨b4, o4, none⟩) 40 c4 (fun q => m (88 + q)) := q4
  obtain ⟨P4, eP4⟩ : ∃ P, o + 4 = P := ⟨_, rfl⟩
  rw [eP4] at l4
  have ix4 : ∀ X : World, (ixP (.slice (some ⟨gp, o, none⟩) 5 cp) (.int .i64 4)).run Tryz.prog X = .ok (.pointer (some ⟨gp, P4, none⟩)) X := fun X => by rw [← eP4]; exact ixP_run X gp o 5 cp 4 (by omega)
  have hne : gp ≠ g := cel_no rx l4
  have nb4 : b4 ≠ g := by omega
  have HQ4 : Hid (∀ X, Kept g w1 X → Bys X (some ⟨b4, o4, none⟩) 40 c4 (fun q => m (88 + q))) := fun X h => by
    obtain ⟨b', o', e', h1, h2, h3⟩ := bys_at q4 (by omega)
    cases e'
    exact .inr (.inr ⟨_, _, rfl, h2, bys_cap q4 (by omega), Nat.lt_of_lt_of_le h1 h.size, fun j hj => (h.cell h1 nb4).trans (h3 j hj)⟩)
  have HL4 : Hid (∀ X, Kept g w1 X → X.cell? ⟨gp, P4, none⟩ = some (.slice (some ⟨b4, o4, none⟩) 40 c4)) := fun X h => (h.cell hgp hne).trans l4
  clear hne
  obtain ⟨N0, eN0⟩ : ∃ N, rdN (fun q => m (0 + q)) = N := ⟨_, rfl⟩
  have HN0 : Hid (∀ X, Kept g w1 X → Calls Tryz.prog 86 #[.slice (some ⟨b0, o0, none⟩) 8 c0] X fun e w' => e = .returned (.tuple #[.int .u64 N0, .int .i64 0]) ∧ w' = X) := fun X h => by
    rw [← eN0]
    exact rrd7 _ c0 _ X (HQ0.out X h) (fun j _ => hm _)
  have EN0 := hid eN0
  clear eN0
  obtain ⟨N1, eN1⟩ : ∃ N, rdN (fun q => m (8 + q)) = N := ⟨_, rfl⟩
  have HN1 : Hid (∀ X, Kept g w1 X → Calls Tryz.prog 86 #[.slice (some ⟨b1, o1, none⟩) 8 c1] X fun e w' => e = .returned (.tuple #[.int .u64 N1, .int .i64 0]) ∧ w' = X) := fun X h => by
    rw [← eN1]
    exact rrd7 _ c1 _ X (HQ1.out X h) (fun j _ => hm _)
  have EN1 := hid eN1
  clear eN1
  obtain ⟨N3, eN3⟩ : ∃ N, pCheckpoint (fun q => m (48 + q)) = N := ⟨_, rfl⟩
  have HN3 : Hid (∀ X, Kept g w1 X → Calls Tryz.prog 87 #[.slice (some ⟨b3, o3, none⟩) 40 c3] X fun e w' => e = .returned (.tuple #[.agg (cel (sCheckpoint N3)), .int .i64 0]) ∧ Below X.heap.size X w') := fun X h => by
    rw [← eN3]
    exact rreadCheckpoint_ok _ _ c3 X (HQ3.out X h) (fun j => hm _) (bys_le (HQ3.out X h) (by omega)) (bys_cap (HQ3.out X h) (by omega))
  have EN3 := hid eN3
  clear eN3
  obtain ⟨N4, eN4⟩ : ∃ N, pCheckpoint (fun q => m (88 + q)) = N := ⟨_, rfl⟩
  have HN4 : Hid (∀ X, Kept g w1 X → Calls Tryz.prog 87 #[.slice (some ⟨b4, o4, none⟩) 40 c4] X fun e w' => e = .returned (.tuple #[.agg (cel (sCheckpoint N4)), .int .i64 0]) ∧ Below X.heap.size X w') := fun X h => by
    rw [← eN4]
    exact rreadCheckpoint_ok _ _ c4 X (HQ4.out X h) (fun j => hm _) (bys_le (HQ4.out X h) (by omega)) (bys_cap (HQ4.out X h) (by omega))
  have EN4 := hid eN4
  clear eN4
  have RV0 := hid rx
  have KV0 := hid (Kept.refl g w1)
  have HB1 := hid hb1
  have HGW := hid hgw
  clear rx hb1 hgw hgp hcu z3 e0 l0 q0 f0 eP0 nb0 l1 q1 f1 eP1 nb1 l2 q2 f2 eP2 nb2 l3 q3 f3 eP3 nb3 l4 q4 f4 eP4 nb4
  have rz : w1.heap[g]? = some (.cells (cel (sData (⟨0, 0, fun _ => 0, oCheckpoint, oCheckpoint⟩ : VData))) 29) := RV0.out
  replace RV0 := hid rz
  clear rz
  have ld := HL0.out _ KV0.out
  have cs : w1.cell? ⟨g, 0, none⟩ = some (.int .u64 0) := (row_cell RV0.out _).trans (cel_at (sData (⟨0, 0, fun _ => 0, oCheckpoint, oCheckpoint⟩ : VData)) 0 0 (Seg.nu 0) rfl (by show 0 < 1; omega))
  have fs := row_frozen RV0.out 0
  go_upto_region 6 with (go_at_call 86; refine (HN0.out _ KV0.out).mono ?_; rintro e w2 ⟨rfl, hw⟩; obtain rfl := hw.symm)
  obtain ⟨V1, hV⟩ : ∃ V, w1.setCell ⟨g, 0, none⟩ (.int .u64 N0) = V := ⟨_, rfl⟩
  have RV1 : Hid (V1.heap[g]? = some (.cells (cel (sData (⟨N0, 0, fun _ => 0, oCheckpoint, oCheckpoint⟩ : VData))) 29)) := by rw [← hV]; exact (row_set RV0.out _ _).trans (congrArg (fun c => some (Obj.cells c 29)) (by kernel_rfl))
  have KV1 : Hid (Kept g w1 V1) := by rw [← hV]; exact KV0.out.setCell _ _
  rw [hV]
  clear hV ld cs fs
  have ld := HL1.out _ KV1.out
  have cs : V1.cell? ⟨g, 1, none⟩ = some (.int .u64 0) := (row_cell RV1.out _).trans (cel_at (sData (⟨N0, 0, fun _ => 0, oCheckpoint, oCheckpoint⟩ : VData)) 1 0 (Seg.nu 0) rfl (by show 0 < 1; omega))
  have fs := row_frozen RV1.out 1
  go_upto_region 7 with (go_at_call 86; refine (HN1.out _ KV1.out).mono ?_; rintro e w2 ⟨rfl, hw⟩; obtain rfl := hw.symm)
  obtain ⟨V2, hV⟩ : ∃ V, V1.setCell ⟨g, 1, none⟩ (.int .u64 N1) = V := ⟨_, rfl⟩
  have RV2 : Hid (V2.heap[g]? = some (.cells (cel (sData (⟨N0, N1, fun _ => 0, oCheckpoint, oCheckpoint⟩ : VData))) 29)) := by rw [← hV]; exact (row_set RV1.out _ _).trans (congrArg (fun c => some (Obj.cells c 29)) (by kernel_rfl))
  have KV2 : Hid (Kept g w1 V2) := by rw [← hV]; exact KV1.out.setCell _ _
  rw [hV]
  clear hV ld cs fs
  go_upto_region 8 with fail
  go_loopw [7] (fun i wr => ∃ k : Nat, k ≤ 32 ∧ i = .int .i64 k ∧ Kept g w1 wr ∧ wr.heap[g]? = some (.cells (cel (sData (⟨N0, N1, fun q => if q < k then m (16 + q) else 0, oCheckpoint, oCheckpoint⟩ : VData))) 29)) (fun i _ => 32 - (intOf i).toNat)
  case atStart => exact ⟨0, by omega, rfl, KV2.out, RV2.out.trans (congrArg (fun c => some (Obj.cells c 29)) (by kernel_rfl))⟩
  case round =>
    obtain ⟨k, hk, rfl, hkp, rn⟩ := hrel
    by_cases hlt : k < 32
    · have bq : decide (k < 32) = true := by simp; omega
      have k1 : (k : Int) < 32 := by omega
      have k2 : (0 : Int) ≤ (k : Int) := by omega
      have cs : wr.cell? ⟨g, 2 + k, none⟩ = some (.int .u8 (if k < k then m (16 + k) else 0)) := (row_cell rn _).trans ((congrArg (fun j => (cel (sData (⟨N0, N1, fun q => if q < k then m (16 + q) else 0, oCheckpoint, oCheckpoint⟩ : VData)))[j]?) (show 2 + k = 2 + k by omega)).trans (cel_at (sData (⟨N0, N1, fun q => if q < k then m (16 + q) else 0, oCheckpoint, oCheckpoint⟩ : VData)) 2 k (Seg.by 32 (fun q => if q < k then m (16 + q) else 0)) rfl hlt))
      have fs := row_frozen rn (2 + k)
      have ld := HL2.out _ hkp
      have lc : wr.cell? ⟨b2, o2 + k, none⟩ = some (.int .u8 (m (16 + k))) := by
        obtain ⟨b', o', e', _, _, h3⟩ := bys_at (HQ2.out _ hkp) (by omega)
        cases e'
        exact h3 k hlt
      have RN := hid rn
      have HK := hid hkp
      obtain ⟨M, eM⟩ : ∃ M, m (16 + k) = M := ⟨_, rfl⟩
      rw [eM] at lc
      have EM := hid eM
      clear rn hkp eM
      go_wp2
      go_roundw
      case rel =>
        refine ⟨k + 1, by omega, by go_num, HK.out.setCell _ _, (row_set RN.out _ _).trans (congrArg (fun c => some (Obj.cells c 29)) ?_)⟩
        refine Eq.trans ?_ ((cel_set (l := sData (⟨N0, N1, fun q => if q < k then m (16 + q) else 0, oCheckpoint, oCheckpoint⟩ : VData)) 2 32 k (fun q => if q < k then m (16 + q) else 0) M rfl hlt).trans ?_)
        · exact congrArg (fun j => (cel (sData (⟨N0, N1, fun q => if q < k then m (16 + q) else 0, oCheckpoint, oCheckpoint⟩ : VData))).setIfInBounds j (Value.int .u8 M)) (show 2 + k = 2 + k by omega)
        · rw [← EM.out, up_step]
          rfl
      case measure => simp [intOf]; omega
    · obtain rfl : k = 32 := by omega
      have bq : decide (32 < 32) = false := by decide
      have RV3 : Hid (wr.heap[g]? = some (.cells (cel (sData (⟨N0, N1, fun q => m (16 + q), oCheckpoint, oCheckpoint⟩ : VData))) 29)) := rn.trans (congrArg (fun c => some (Obj.cells c 29)) (by kernel_rfl))
      have KV3 := hid hkp
      clear rn hkp bq hk hlt
      obtain ⟨V3, hV⟩ : ∃ V, wr = V := ⟨_, rfl⟩
      subst hV
      have ld := HL3.out _ KV3.out
      go_upto_region 14 with (go_at_call 87; refine (HN3.out _ KV3.out).mono ?_; rintro e w2 ⟨rfl, hbc⟩; have rg := (hbc.block g (Array.getElem?_eq_some_iff.1 RV3.out).1).trans RV3.out; have sv := svCheckpoint_mid rg 34 N3 (by rw [cel_size, slData]; omega); have RG := hid rg; have HBC := hid hbc; clear rg hbc)
      obtain ⟨V4, hV⟩ : ∃ V, w2.setCells g 34 (celL (sCheckpoint N3)) = V := ⟨_, rfl⟩
      have RV4 : Hid (V4.heap[g]? = some (.cells (cel (sData (⟨N0, N1, fun q => m (16 + q), N3, oCheckpoint⟩ : VData))) 29)) := by rw [← hV]; exact (setCells_row _ _ RG.out).trans (congrArg (fun c => some (Obj.cells c 29)) (by kernel_rfl))
      have KV4 : Hid (Kept g w1 V4) := by rw [← hV]; exact setCells_kept _ _ (KV3.out.trans (Kept.ofBelow HBC.out))
      rw [hV]
      clear hV ld sv RG HBC
      have ld := HL4.out _ KV4.out
      go_upto_region 17 with (go_at_call 87; refine (HN4.out _ KV4.out).mono ?_; rintro e w2 ⟨rfl, hbc⟩; have rg := (hbc.block g (Array.getElem?_eq_some_iff.1 RV4.out).1).trans RV4.out; have sv := svCheckpoint_mid rg 67 N4 (by rw [cel_size, slData]; omega); have RG := hid rg; have HBC := hid hbc; clear rg hbc)
      obtain ⟨V5, hV⟩ : ∃ V, w2.setCells g 67 (celL (sCheckpoint N4)) = V := ⟨_, rfl⟩
      have RV5 : Hid (V5.heap[g]? = some (.cells (cel (sData (⟨N0, N1, fun q => m (16 + q), N3, N4⟩ : VData))) 29)) := by rw [← hV]; exact (setCells_row _ _ RG.out).trans (congrArg (fun c => some (Obj.cells c 29)) (by kernel_rfl))
      have KV5 : Hid (Kept g w1 V5) := by rw [← hV]; exact setCells_kept _ _ (KV4.out.trans (Kept.ofBelow HBC.out))
      rw [hV]
      clear hV ld sv RG HBC
      obtain ⟨vv, ev⟩ : ∃ v : VData, (⟨N0, N1, fun q => m (16 + q), N3, N4⟩ : VData) = v := ⟨_, rfl⟩
      have rv := RV5.out
      rw [ev] at rv
      have z3 := Z3.out
      have e0 := EG.out
      have e2 := HB1.out.size
      have rr : V5.heap[y]? = some (.cells (cel (sData oData)) 29) := (KV5.out.block y (by omega) (by omega)).trans ((HB1.out.block y (by omega)).trans R1.out)
      have sv := svData_run rr vv
      have lv := lvData_mid (x := vv) rv 0 (take_all _) rfl
      have RR := hid rr
      have EV := hid ev
      clear rr rv ev z3 e0 e2
      go_wp2
      refine retData _ _ y vv 29 _ rfl rfl rfl rfl (setRow_at RR.out) ⟨?_, ?_⟩
      · rw [← EV.out, ← EN0.out, ← EN1.out, ← EN3.out, ← EN4.out]
        rfl
      have e0 := EY.out
      have e1 := HB3.out.size
      have e2 := HB1.out.size
      have e3 := EG.out
      have z3 := Z3.out
      exact below_row (HB3.out.trans ((HB1.out.mono (by omega)).trans (KV5.out.below (by omega) (by omega)))) (by omega) _

end Go.Proofs.YtokbhcgooboocaaGreatDoor
