/-
  What Root answers.
-/
import Derived.Test.YtokbhcgooboocaaGreatDoorCoAp
import Derived.Test.YtokbhcgooboocaaGreatDoorCoBp
namespace Go.Proofs.YtokbhcgooboocaaGreatDoor
open Go.RowKit
set_option linter.unusedVariables false
set_option linter.unusedSimpArgs false

attribute [local go_sem ↓] sv24_eq lv24_eq ix22_eq slr_eq bd27_eq bs22_eq sv8_eq mkI_eq ixI_eq ixP_eq bsP_eq lvCheckpoint_eq

set_option maxRecDepth 20000 in
set_option maxHeartbeats 2000000 in
theorem rootCheckpoint_any (x : VCheckpoint) (w : World) (hx : OkCheckpoint x) (hS : Sh w) :
    Calls Tryz.prog 65 #[.agg (cel (sCheckpoint x))] w fun e w' => e = .returned (.agg (vs .u8 32 (hCheckpoint x))) ∧ Below w.heap.size w w' := by
  have z := zero_root
  obtain ⟨W1, hW1⟩ : ∃ W, w.alloc (.cells (cel (sCheckpoint x)) 27) = W := ⟨_, rfl⟩
  obtain ⟨W0, hW0⟩ : ∃ W, W1.alloc (.cells (vs .u8 32 fun _ => 0) 25) = W := ⟨_, rfl⟩
  have hB1 : Below w.heap.size w W1 := by rw [← hW1]; exact (Below.refl _ _).alloc (Nat.le_refl _) _
  have z1 : W1.heap.size = w.heap.size + 1 := by rw [← hW1]; simp
  have z0 : W0.heap.size = w.heap.size + 2 := by rw [← hW0]; simp [z1]
  have hB0 : Below w.heap.size w W0 := by rw [← hW0]; exact hB1.alloc (by omega) _
  have r1 : W1.heap[w.heap.size]? = some (.cells (cel (sCheckpoint x)) 27) := by rw [← hW1]; exact heap_new rfl
  have r0 : W0.heap[w.heap.size]? = some (.cells (cel (sCheckpoint x)) 27) := by rw [← hW0]; exact (heap_old (by omega)).trans r1
  have rr : W0.heap[w.heap.size + 1]? = some (.cells (vs .u8 32 fun _ => 0) 25) := by rw [← hW0]; exact heap_new (by omega)
  obtain ⟨y, ey⟩ : ∃ y, w.heap.size = y := ⟨_, rfl⟩
  have hy1 : y + 1 ≤ W0.heap.size := by omega
  have hry : ∀ X, Below (y + 1) W0 X → X.heap[y]? = some (.cells (cel (sCheckpoint x)) 27) := fun X h => by rw [← ey]; exact (h.block _ (by omega)).trans r0
  have hrr : ∀ X, Below W0.heap.size W0 X → X.heap[y + 1]? = some (.cells (vs .u8 32 fun _ => 0) 25) := fun X h => by rw [← ey]; exact (h.block _ (by omega)).trans rr
  have hSh : ∀ X, Below W0.heap.size W0 X → Sh X := fun X h => (hS.below hB0).below h
  have hc0 : ∀ X, Below W0.heap.size W0 X → Calls Tryz.prog 63 #[.int .u64 x.f0] X fun e w' => e = .returned (.agg (vs .u8 32 (bR (nmB x.f0) 8))) ∧ Below X.heap.size X w' := fun X h => nroot7 x.f0 X hx.1.1 hx.1.2 (hSh X h)
  have hd0 : ∀ j, j < 32 → 0 ≤ (bR (nmB x.f0) 8) j ∧ (bR (nmB x.f0) 8) j < 256 := fun j hj => treeV_bd (pk_bd (fun j _ => nmB_bd _ j) _) _ j hj
  have HL0 : Hid (∀ X, Below (y + 1) W0 X → X.cell? ⟨y, 0, none⟩ = some (.int .u64 x.f0)) := fun X h => seg_nu (hry X h) 0 x.f0 rfl 0 rfl
  have hc1 : ∀ X, Below W0.heap.size W0 X → Calls Tryz.prog 64 #[.slice (some ⟨y, 1, none⟩) 32 32] X fun e w' => e = .returned (.agg (vs .u8 32 (bR x.f1 32))) ∧ Below X.heap.size X w' := fun X h => broot_any _ 32 32 x.f1 X (seg_bys (hry X (h.mono hy1)) 1 32 x.f1 rfl 1 rfl (by omega)) (by omega) hx.2 (hSh X h)
  have hd1 : ∀ j, j < 32 → 0 ≤ (bR x.f1 32) j ∧ (bR x.f1 32) j < 256 := fun j hj => treeV_bd (pk_bd hx.2 _) _ j hj
  have eh : hCheckpoint x = treeV (fl7 [bR (nmB x.f0) 8, bR x.f1 32]) 2 (2 : Nat) := rfl
  obtain ⟨C0, eC0⟩ : ∃ C, bR (nmB x.f0) 8 = C := ⟨_, rfl⟩
  rw [eC0] at hc0 hd0 eh
  obtain ⟨C1, eC1⟩ : ∃ C, bR x.f1 32 = C := ⟨_, rfl⟩
  rw [eC1] at hc1 hd1 eh
  have hro : ∀ X g, Below W0.heap.size W0 X → X.heap[g]? = some (.cells (vs .u8 64 (fl7 [C0, C1])) 25) → Calls Tryz.prog 62 #[.slice (some ⟨g, 0, none⟩) 2 2] X fun e w' => e = .returned (.agg (vs .u8 32 (hCheckpoint x))) ∧ Below X.heap.size X w' := fun X g h h2 => by
    rw [eh]
    exact rootof_any (some ⟨g, 0, none⟩) 2 2 (fl7 [C0, C1]) X (rts_row (n := 2) h2) (by omega) (fl7_bd (fun c hc => by
      simp only [List.mem_cons, List.not_mem_nil, or_false] at hc
      rcases hc with rfl | rfl
      · exact hd0
      · exact hd1
      ) _) (hSh X h)
  obtain ⟨D, eD⟩ : ∃ D, hCheckpoint x = D := ⟨_, rfl⟩
  rw [eD] at hro ⊢
  have HC0 := hid hc0
  have HC1 := hid hc1
  have HRO := hid hro
  have HRR := hid hrr
  have hdr : Below W0.heap.size W0 W0.drew := (Below.refl _ _).drew
  have S0 := hid hdr
  have HB0w := hid hB0
  have EY := hid ey
  have Z0 := hid z0
  have HY1 := hid hy1
  clear hy1 hdr hB0 r0 r1 rr hry hrr hx hro hSh hS hB1 hc0 hd0 eC0 hc1 hd1 eC1 eh eD
  go_enter Tryz.func65, Tryz.ntmps65
  go_upto_region 1 with fail
  clear hW0 hW1 ey z0 z1 z
  refine wp_region_noPanic ?_
  refine wp_region_held_drew (S := fun X => Below (y + 1) W0 X) (by kernel_rfl) (S0.out.mono HY1.out) (fun hHeld => ?_)
  refine wpAnyH_take (i := 0) (v := ?v7) rfl (by kernel_rfl) (by kernel_rfl) (by kernel_rfl) (fun _ _ _ h => h) (Or.inl ⟨by rfl, ?hy7⟩) hHeld ?rest7
  case hy7 =>
    intro w hSw
    go_simp
    try with_reducible rfl
  try simp only [Act.put, List.setIfInBounds_toArray, List.set_cons_zero, List.set_cons_succ, Array.toArray_toList, List.getElem_toArray, List.getElem_cons_zero, List.getElem_cons_succ]
  refine wpAnyH_take (i := 1) (v := ?v8) rfl (by kernel_rfl) (by kernel_rfl) (by kernel_rfl) (fun _ _ _ h => h) (Or.inl ⟨by rfl, ?hy8⟩) hHeld ?rest8
  case hy8 =>
    intro w hSw
    have ld := HL0.out _ hSw
    go_simp
    try with_reducible rfl
  try simp only [Act.put, List.setIfInBounds_toArray, List.set_cons_zero, List.set_cons_succ, Array.toArray_toList, List.getElem_toArray, List.getElem_cons_zero, List.getElem_cons_succ]
  refine wpAnyH_take (i := 3) (v := ?v9) rfl (by kernel_rfl) (by kernel_rfl) (by kernel_rfl) (fun _ _ _ h => h) (Or.inl ⟨by rfl, ?hy9⟩) hHeld ?rest9
  case hy9 =>
    intro w hSw
    go_simp
    try with_reducible rfl
  try simp only [Act.put, List.setIfInBounds_toArray, List.set_cons_zero, List.set_cons_succ, Array.toArray_toList, List.getElem_toArray, List.getElem_cons_zero, List.getElem_cons_succ]
  refine wpAnyH_take (i := 4) (v := ?v10) rfl (by kernel_rfl) (by kernel_rfl) (by kernel_rfl) (fun _ _ _ h => h) (Or.inl ⟨by rfl, ?hy10⟩) hHeld ?rest10
  case hy10 =>
    intro w hSw
    go_simp
    try with_reducible rfl
  try simp only [Act.put, List.setIfInBounds_toArray, List.set_cons_zero, List.set_cons_succ, Array.toArray_toList, List.getElem_toArray, List.getElem_cons_zero, List.getElem_cons_succ]
  refine wpAnyH_ready (rs := [2]) (by kernel_rfl) (by simp) ?_
  refine AllReadyH.cons rfl (fun K hK => ?_) AllReadyH.nil
  go_simp
  refine (HC0.out _ S0.out).mono ?_
  rintro e X1 ⟨rfl, hb1⟩
  dsimp only
  have S1 := hid (S0.out.trans (hb1.mono S0.out.size))
  clear hb1
  refine hK.out _ _ (S1.out.mono HY1.out) (fun hHeld => ?_)
  clear hK K
  try simp only [Act.put, List.setIfInBounds_toArray, List.set_cons_zero, List.set_cons_succ, Array.toArray_toList, List.getElem_toArray, List.getElem_cons_zero, List.getElem_cons_succ]
  refine wpAnyH_ready (rs := [5]) (by kernel_rfl) (by simp) ?_
  refine AllReadyH.cons rfl (fun K hK => ?_) AllReadyH.nil
  go_simp
  refine (HC1.out _ S1.out).mono ?_
  rintro e X2 ⟨rfl, hb2⟩
  dsimp only
  have S2 := hid (S1.out.trans (hb2.mono S1.out.size))
  clear hb2
  refine hK.out _ _ (S2.out.mono HY1.out) (fun hHeld => ?_)
  clear hK K
  try simp only [Act.put, List.setIfInBounds_toArray, List.set_cons_zero, List.set_cons_succ, Array.toArray_toList, List.getElem_toArray, List.getElem_cons_zero, List.getElem_cons_succ]
  have bs := bs22_2 X2 C0 C1
  have hBn : Below X2.heap.size X2 (X2.alloc (.cells (vs .u8 64 (fl7 [C0, C1])) 25)) := (Below.refl _ _).alloc (Nat.le_refl _) _
  have HBN := hid (S2.out.trans (hBn.mono S2.out.size))
  have HLA := hid (HRO.out (X2.alloc (.cells (vs .u8 64 (fl7 [C0, C1])) 25)) X2.heap.size HBN.out (heap_new rfl))
  clear hBn
  refine wpAnyH_ready (rs := [6]) (by kernel_rfl) (by simp) ?_
  refine AllReadyH.cons rfl (fun K hK => ?_) AllReadyH.nil
  go_simp
  refine hK.out _ _ (HBN.out.mono HY1.out) (fun hHeld => ?_)
  clear hK K bs
  try simp only [Act.put, List.setIfInBounds_toArray, List.set_cons_zero, List.set_cons_succ, Array.toArray_toList, List.getElem_toArray, List.getElem_cons_zero, List.getElem_cons_succ]
  refine wpAnyH_ready (rs := [7]) (by kernel_rfl) (by simp) ?_
  refine AllReadyH.cons rfl (fun K hK => ?_) AllReadyH.nil
  go_simp
  refine (HLA.out).mono ?_
  rintro e Y ⟨rfl, hbY⟩
  dsimp only
  have HY := hid (HBN.out.trans (hbY.mono HBN.out.size))
  clear hbY
  refine hK.out _ _ (HY.out.mono HY1.out) (fun hHeld => ?_)
  clear hK K
  try simp only [Act.put, List.setIfInBounds_toArray, List.set_cons_zero, List.set_cons_succ, Array.toArray_toList, List.getElem_toArray, List.getElem_cons_zero, List.getElem_cons_succ]
  have rY := HRR.out _ HY.out
  have s1 := sv24_run rY D
  have RY := hid rY
  clear rY
  refine wpAnyH_ready (rs := [8]) (by kernel_rfl) (by simp) ?_
  refine AllReadyH.cons rfl (fun K hK => ?_) AllReadyH.nil
  go_simp
  refine hK.out _ _ (below_row (HY.out.mono HY1.out) (Nat.le_refl _) _) (fun hHeld => ?_)
  clear hK K s1
  try simp only [Act.put, List.setIfInBounds_toArray, List.set_cons_zero, List.set_cons_succ, Array.toArray_toList, List.getElem_toArray, List.getElem_cons_zero, List.getElem_cons_succ]
  refine wpAnyH_done (by kernel_rfl) ?_ _
  refine NoPanic.normal ?_
  go_wp2
  refine ret24 _ (y + 1) _ 25 rfl rfl rfl (setRow_at RY.out) ⟨rfl, ?_⟩
  have e0 := EY.out
  have e1 := Z0.out
  exact below_row (HB0w.out.trans (HY.out.mono (by omega))) (by omega) _

end Go.Proofs.YtokbhcgooboocaaGreatDoor

namespace Go.Proofs.YtokbhcgooboocaaGreatDoor
open Go.RowKit
set_option linter.unusedVariables false
set_option linter.unusedSimpArgs false

attribute [local go_sem ↓] sv24_eq lv24_eq ix22_eq slr_eq bd27_eq bs22_eq sv8_eq mkI_eq ixI_eq ixP_eq bsP_eq lvCheckpoint_eq

set_option maxRecDepth 20000 in
set_option maxHeartbeats 2000000 in
theorem rootData_any (x : VData) (w : World) (hx : OkData x) (hS : Sh w) :
    Calls Tryz.prog 27 #[.agg (cel (sData x))] w fun e w' => e = .returned (.agg (vs .u8 32 (hData x))) ∧ Below w.heap.size w w' := by
  have z := zero_root
  obtain ⟨W1, hW1⟩ : ∃ W, w.alloc (.cells (cel (sData x)) 29) = W := ⟨_, rfl⟩
  obtain ⟨W0, hW0⟩ : ∃ W, W1.alloc (.cells (vs .u8 32 fun _ => 0) 25) = W := ⟨_, rfl⟩
  have hB1 : Below w.heap.size w W1 := by rw [← hW1]; exact (Below.refl _ _).alloc (Nat.le_refl _) _
  have z1 : W1.heap.size = w.heap.size + 1 := by rw [← hW1]; simp
  have z0 : W0.heap.size = w.heap.size + 2 := by rw [← hW0]; simp [z1]
  have hB0 : Below w.heap.size w W0 := by rw [← hW0]; exact hB1.alloc (by omega) _
  have r1 : W1.heap[w.heap.size]? = some (.cells (cel (sData x)) 29) := by rw [← hW1]; exact heap_new rfl
  have r0 : W0.heap[w.heap.size]? = some (.cells (cel (sData x)) 29) := by rw [← hW0]; exact (heap_old (by omega)).trans r1
  have rr : W0.heap[w.heap.size + 1]? = some (.cells (vs .u8 32 fun _ => 0) 25) := by rw [← hW0]; exact heap_new (by omega)
  obtain ⟨y, ey⟩ : ∃ y, w.heap.size = y := ⟨_, rfl⟩
  have hy1 : y + 1 ≤ W0.heap.size := by omega
  have hry : ∀ X, Below (y + 1) W0 X → X.heap[y]? = some (.cells (cel (sData x)) 29) := fun X h => by rw [← ey]; exact (h.block _ (by omega)).trans r0
  have hrr : ∀ X, Below W0.heap.size W0 X → X.heap[y + 1]? = some (.cells (vs .u8 32 fun _ => 0) 25) := fun X h => by rw [← ey]; exact (h.block _ (by omega)).trans rr
  have hSh : ∀ X, Below W0.heap.size W0 X → Sh X := fun X h => (hS.below hB0).below h
  have hc0 : ∀ X, Below W0.heap.size W0 X → Calls Tryz.prog 63 #[.int .u64 x.f0] X fun e w' => e = .returned (.agg (vs .u8 32 (bR (nmB x.f0) 8))) ∧ Below X.heap.size X w' := fun X h => nroot7 x.f0 X hx.1.1 hx.1.2 (hSh X h)
  have hd0 : ∀ j, j < 32 → 0 ≤ (bR (nmB x.f0) 8) j ∧ (bR (nmB x.f0) 8) j < 256 := fun j hj => treeV_bd (pk_bd (fun j _ => nmB_bd _ j) _) _ j hj
  have HL0 : Hid (∀ X, Below (y + 1) W0 X → X.cell? ⟨y, 0, none⟩ = some (.int .u64 x.f0)) := fun X h => seg_nu (hry X h) 0 x.f0 rfl 0 rfl
  have hc1 : ∀ X, Below W0.heap.size W0 X → Calls Tryz.prog 63 #[.int .u64 x.f1] X fun e w' => e = .returned (.agg (vs .u8 32 (bR (nmB x.f1) 8))) ∧ Below X.heap.size X w' := fun X h => nroot7 x.f1 X hx.2.1.1 hx.2.1.2 (hSh X h)
  have hd1 : ∀ j, j < 32 → 0 ≤ (bR (nmB x.f1) 8) j ∧ (bR (nmB x.f1) 8) j < 256 := fun j hj => treeV_bd (pk_bd (fun j _ => nmB_bd _ j) _) _ j hj
  have HL1 : Hid (∀ X, Below (y + 1) W0 X → X.cell? ⟨y, 1, none⟩ = some (.int .u64 x.f1)) := fun X h => seg_nu (hry X h) 1 x.f1 rfl 1 rfl
  have hc2 : ∀ X, Below W0.heap.size W0 X → Calls Tryz.prog 64 #[.slice (some ⟨y, 2, none⟩) 32 32] X fun e w' => e = .returned (.agg (vs .u8 32 (bR x.f2 32))) ∧ Below X.heap.size X w' := fun X h => broot_any _ 32 32 x.f2 X (seg_bys (hry X (h.mono hy1)) 2 32 x.f2 rfl 2 rfl (by omega)) (by omega) hx.2.2.1 (hSh X h)
  have hd2 : ∀ j, j < 32 → 0 ≤ (bR x.f2 32) j ∧ (bR x.f2 32) j < 256 := fun j hj => treeV_bd (pk_bd hx.2.2.1 _) _ j hj
  have hc3 : ∀ X, Below W0.heap.size W0 X → Calls Tryz.prog 65 #[.agg (cel (sCheckpoint x.f3))] X fun e w' => e = .returned (.agg (vs .u8 32 (hCheckpoint x.f3))) ∧ Below X.heap.size X w' := fun X h => rootCheckpoint_any x.f3 X hx.2.2.2.1 (hSh X h)
  have hd3 : ∀ j, j < 32 → 0 ≤ (hCheckpoint x.f3) j ∧ (hCheckpoint x.f3) j < 256 := fun j hj => hCheckpoint_bd hx.2.2.2.1 j hj
  have HL3 : Hid (∀ X, Below (y + 1) W0 X → (lvCheckpoint ⟨y, 34, none⟩).run Tryz.prog X = .ok (.agg (cel (sCheckpoint x.f3))) X) := fun X h => lvCheckpoint_mid (hry X h) 34 rfl rfl
  have hc4 : ∀ X, Below W0.heap.size W0 X → Calls Tryz.prog 65 #[.agg (cel (sCheckpoint x.f4))] X fun e w' => e = .returned (.agg (vs .u8 32 (hCheckpoint x.f4))) ∧ Below X.heap.size X w' := fun X h => rootCheckpoint_any x.f4 X hx.2.2.2.2 (hSh X h)
  have hd4 : ∀ j, j < 32 → 0 ≤ (hCheckpoint x.f4) j ∧ (hCheckpoint x.f4) j < 256 := fun j hj => hCheckpoint_bd hx.2.2.2.2 j hj
  have HL4 : Hid (∀ X, Below (y + 1) W0 X → (lvCheckpoint ⟨y, 67, none⟩).run Tryz.prog X = .ok (.agg (cel (sCheckpoint x.f4))) X) := fun X h => lvCheckpoint_mid (hry X h) 67 rfl rfl
  have eh : hData x = treeV (fl7 [bR (nmB x.f0) 8, bR (nmB x.f1) 8, bR x.f2 32, hCheckpoint x.f3, hCheckpoint x.f4]) 5 (5 : Nat) := rfl
  obtain ⟨C0, eC0⟩ : ∃ C, bR (nmB x.f0) 8 = C := ⟨_, rfl⟩
  rw [eC0] at hc0 hd0 eh
  obtain ⟨C1, eC1⟩ : ∃ C, bR (nmB x.f1) 8 = C := ⟨_, rfl⟩
  rw [eC1] at hc1 hd1 eh
  obtain ⟨C2, eC2⟩ : ∃ C, bR x.f2 32 = C := ⟨_, rfl⟩
  rw [eC2] at hc2 hd2 eh
  obtain ⟨C3, eC3⟩ : ∃ C, hCheckpoint x.f3 = C := ⟨_, rfl⟩
  rw [eC3] at hc3 hd3 eh
  obtain ⟨C4, eC4⟩ : ∃ C, hCheckpoint x.f4 = C := ⟨_, rfl⟩
  rw [eC4] at hc4 hd4 eh
  have hro : ∀ X g, Below W0.heap.size W0 X → X.heap[g]? = some (.cells (vs .u8 160 (fl7 [C0, C1, C2, C3, C4])) 25) → Calls Tryz.prog 62 #[.slice (some ⟨g, 0, none⟩) 5 5] X fun e w' => e = .returned (.agg (vs .u8 32 (hData x))) ∧ Below X.heap.size X w' := fun X g h h2 => by
    rw [eh]
    exact rootof_any (some ⟨g, 0, none⟩) 5 5 (fl7 [C0, C1, C2, C3, C4]) X (rts_row (n := 5) h2) (by omega) (fl7_bd (fun c hc => by
      simp only [List.mem_cons, List.not_mem_nil, or_false] at hc
      rcases hc with rfl | rfl | rfl | rfl | rfl
      · exact hd0
      · exact hd1
      · exact hd2
      · exact hd3
      · exact hd4
      ) _) (hSh X h)
  obtain ⟨D, eD⟩ : ∃ D, hData x = D := ⟨_, rfl⟩
  rw [eD] at hro ⊢
  have HC0 := hid hc0
  have HC1 := hid hc1
  have HC2 := hid hc2
  have HC3 := hid hc3
  have HC4 := hid hc4
  have HRO := hid hro
  have HRR := hid hrr
  have hdr : Below W0.heap.size W0 W0.drew := (Below.refl _ _).drew
  have S0 := hid hdr
  have HB0w := hid hB0
  have EY := hid ey
  have Z0 := hid z0
  have HY1 := hid hy1
  clear hy1 hdr hB0 r0 r1 rr hry hrr hx hro hSh hS hB1 hc0 hd0 eC0 hc1 hd1 eC1 hc2 hd2 eC2 hc3 hd3 eC3 hc4 hd4 eC4 eh eD
  go_enter Tryz.func27, Tryz.ntmps27
  go_upto_region 1 with fail
  clear hW0 hW1 ey z0 z1 z
  refine wp_region_noPanic ?_
  refine wp_region_held_drew (S := fun X => Below (y + 1) W0 X) (by kernel_rfl) (S0.out.mono HY1.out) (fun hHeld => ?_)
  refine wpAnyH_take (i := 0) (v := ?v27) rfl (by kernel_rfl) (by kernel_rfl) (by kernel_rfl) (fun _ _ _ h => h) (Or.inl ⟨by rfl, ?hy27⟩) hHeld ?rest27
  case hy27 =>
    intro w hSw
    go_simp
    try with_reducible rfl
  try simp only [Act.put, List.setIfInBounds_toArray, List.set_cons_zero, List.set_cons_succ, Array.toArray_toList, List.getElem_toArray, List.getElem_cons_zero, List.getElem_cons_succ]
  refine wpAnyH_take (i := 1) (v := ?v28) rfl (by kernel_rfl) (by kernel_rfl) (by kernel_rfl) (fun _ _ _ h => h) (Or.inl ⟨by rfl, ?hy28⟩) hHeld ?rest28
  case hy28 =>
    intro w hSw
    have ld := HL0.out _ hSw
    go_simp
    try with_reducible rfl
  try simp only [Act.put, List.setIfInBounds_toArray, List.set_cons_zero, List.set_cons_succ, Array.toArray_toList, List.getElem_toArray, List.getElem_cons_zero, List.getElem_cons_succ]
  refine wpAnyH_take (i := 3) (v := ?v29) rfl (by kernel_rfl) (by kernel_rfl) (by kernel_rfl) (fun _ _ _ h => h) (Or.inl ⟨by rfl, ?hy29⟩) hHeld ?rest29
  case hy29 =>
    intro w hSw
    go_simp
    try with_reducible rfl
  try simp only [Act.put, List.setIfInBounds_toArray, List.set_cons_zero, List.set_cons_succ, Array.toArray_toList, List.getElem_toArray, List.getElem_cons_zero, List.getElem_cons_succ]
  refine wpAnyH_take (i := 4) (v := ?v30) rfl (by kernel_rfl) (by kernel_rfl) (by kernel_rfl) (fun _ _ _ h => h) (Or.inl ⟨by rfl, ?hy30⟩) hHeld ?rest30
  case hy30 =>
    intro w hSw
    have ld := HL1.out _ hSw
    go_simp
    try with_reducible rfl
  try simp only [Act.put, List.setIfInBounds_toArray, List.set_cons_zero, List.set_cons_succ, Array.toArray_toList, List.getElem_toArray, List.getElem_cons_zero, List.getElem_cons_succ]
  refine wpAnyH_take (i := 6) (v := ?v31) rfl (by kernel_rfl) (by kernel_rfl) (by kernel_rfl) (fun _ _ _ h => h) (Or.inl ⟨by rfl, ?hy31⟩) hHeld ?rest31
  case hy31 =>
    intro w hSw
    go_simp
    try with_reducible rfl
  try simp only [Act.put, List.setIfInBounds_toArray, List.set_cons_zero, List.set_cons_succ, Array.toArray_toList, List.getElem_toArray, List.getElem_cons_zero, List.getElem_cons_succ]
  refine wpAnyH_take (i := 7) (v := ?v32) rfl (by kernel_rfl) (by kernel_rfl) (by kernel_rfl) (fun _ _ _ h => h) (Or.inl ⟨by rfl, ?hy32⟩) hHeld ?rest32
  case hy32 =>
    intro w hSw
    go_simp
    try with_reducible rfl
  try simp only [Act.put, List.setIfInBounds_toArray, List.set_cons_zero, List.set_cons_succ, Array.toArray_toList, List.getElem_toArray, List.getElem_cons_zero, List.getElem_cons_succ]
  refine wpAnyH_take (i := 9) (v := ?v33) rfl (by kernel_rfl) (by kernel_rfl) (by kernel_rfl) (fun _ _ _ h => h) (Or.inl ⟨by rfl, ?hy33⟩) hHeld ?rest33
  case hy33 =>
    intro w hSw
    go_simp
    try with_reducible rfl
  try simp only [Act.put, List.setIfInBounds_toArray, List.set_cons_zero, List.set_cons_succ, Array.toArray_toList, List.getElem_toArray, List.getElem_cons_zero, List.getElem_cons_succ]
  refine wpAnyH_take (i := 10) (v := ?v34) rfl (by kernel_rfl) (by kernel_rfl) (by kernel_rfl) (fun _ _ _ h => h) (Or.inl ⟨by rfl, ?hy34⟩) hHeld ?rest34
  case hy34 =>
    intro w hSw
    have ld := HL3.out _ hSw
    go_simp
    try with_reducible rfl
  try simp only [Act.put, List.setIfInBounds_toArray, List.set_cons_zero, List.set_cons_succ, Array.toArray_toList, List.getElem_toArray, List.getElem_cons_zero, List.getElem_cons_succ]
  refine wpAnyH_take (i := 12) (v := ?v35) rfl (by kernel_rfl) (by kernel_rfl) (by kernel_rfl) (fun _ _ _ h => h) (Or.inl ⟨by rfl, ?hy35⟩) hHeld ?rest35
  case hy35 =>
    intro w hSw
    go_simp
    try with_reducible rfl
  try simp only [Act.put, List.setIfInBounds_toArray, List.set_cons_zero, List.set_cons_succ, Array.toArray_toList, List.getElem_toArray, List.getElem_cons_zero, List.getElem_cons_succ]
  refine wpAnyH_take (i := 13) (v := ?v36) rfl (by kernel_rfl) (by kernel_rfl) (by kernel_rfl) (fun _ _ _ h => h) (Or.inl ⟨by rfl, ?hy36⟩) hHeld ?rest36
  case hy36 =>
    intro w hSw
    have ld := HL4.out _ hSw
    go_simp
    try with_reducible rfl
  try simp only [Act.put, List.setIfInBounds_toArray, List.set_cons_zero, List.set_cons_succ, Array.toArray_toList, List.getElem_toArray, List.getElem_cons_zero, List.getElem_cons_succ]
  refine wpAnyH_ready (rs := [2]) (by kernel_rfl) (by simp) ?_
  refine AllReadyH.cons rfl (fun K hK => ?_) AllReadyH.nil
  go_simp
  refine (HC0.out _ S0.out).mono ?_
  rintro e X1 ⟨rfl, hb1⟩
  dsimp only
  have S1 := hid (S0.out.trans (hb1.mono S0.out.size))
  clear hb1
  refine hK.out _ _ (S1.out.mono HY1.out) (fun hHeld => ?_)
  clear hK K
  try simp only [Act.put, List.setIfInBounds_toArray, List.set_cons_zero, List.set_cons_succ, Array.toArray_toList, List.getElem_toArray, List.getElem_cons_zero, List.getElem_cons_succ]
  refine wpAnyH_ready (rs := [5]) (by kernel_rfl) (by simp) ?_
  refine AllReadyH.cons rfl (fun K hK => ?_) AllReadyH.nil
  go_simp
  refine (HC1.out _ S1.out).mono ?_
  rintro e X2 ⟨rfl, hb2⟩
  dsimp only
  have S2 := hid (S1.out.trans (hb2.mono S1.out.size))
  clear hb2
  refine hK.out _ _ (S2.out.mono HY1.out) (fun hHeld => ?_)
  clear hK K
  try simp only [Act.put, List.setIfInBounds_toArray, List.set_cons_zero, List.set_cons_succ, Array.toArray_toList, List.getElem_toArray, List.getElem_cons_zero, List.getElem_cons_succ]
  refine wpAnyH_ready (rs := [8]) (by kernel_rfl) (by simp) ?_
  refine AllReadyH.cons rfl (fun K hK => ?_) AllReadyH.nil
  go_simp
  refine (HC2.out _ S2.out).mono ?_
  rintro e X3 ⟨rfl, hb3⟩
  dsimp only
  have S3 := hid (S2.out.trans (hb3.mono S2.out.size))
  clear hb3
  refine hK.out _ _ (S3.out.mono HY1.out) (fun hHeld => ?_)
  clear hK K
  try simp only [Act.put, List.setIfInBounds_toArray, List.set_cons_zero, List.set_cons_succ, Array.toArray_toList, List.getElem_toArray, List.getElem_cons_zero, List.getElem_cons_succ]
  refine wpAnyH_ready (rs := [11]) (by kernel_rfl) (by simp) ?_
  refine AllReadyH.cons rfl (fun K hK => ?_) AllReadyH.nil
  go_simp
  refine (HC3.out _ S3.out).mono ?_
  rintro e X4 ⟨rfl, hb4⟩
  dsimp only
  have S4 := hid (S3.out.trans (hb4.mono S3.out.size))
  clear hb4
  refine hK.out _ _ (S4.out.mono HY1.out) (fun hHeld => ?_)
  clear hK K
  try simp only [Act.put, List.setIfInBounds_toArray, List.set_cons_zero, List.set_cons_succ, Array.toArray_toList, List.getElem_toArray, List.getElem_cons_zero, List.getElem_cons_succ]
  refine wpAnyH_ready (rs := [14]) (by kernel_rfl) (by simp) ?_
  refine AllReadyH.cons rfl (fun K hK => ?_) AllReadyH.nil
  go_simp
  refine (HC4.out _ S4.out).mono ?_
  rintro e X5 ⟨rfl, hb5⟩
  dsimp only
  have S5 := hid (S4.out.trans (hb5.mono S4.out.size))
  clear hb5
  refine hK.out _ _ (S5.out.mono HY1.out) (fun hHeld => ?_)
  clear hK K
  try simp only [Act.put, List.setIfInBounds_toArray, List.set_cons_zero, List.set_cons_succ, Array.toArray_toList, List.getElem_toArray, List.getElem_cons_zero, List.getElem_cons_succ]
  have bs := bs22_5 X5 C0 C1 C2 C3 C4
  have hBn : Below X5.heap.size X5 (X5.alloc (.cells (vs .u8 160 (fl7 [C0, C1, C2, C3, C4])) 25)) := (Below.refl _ _).alloc (Nat.le_refl _) _
  have HBN := hid (S5.out.trans (hBn.mono S5.out.size))
  have HLA := hid (HRO.out (X5.alloc (.cells (vs .u8 160 (fl7 [C0, C1, C2, C3, C4])) 25)) X5.heap.size HBN.out (heap_new rfl))
  clear hBn
  refine wpAnyH_ready (rs := [15]) (by kernel_rfl) (by simp) ?_
  refine AllReadyH.cons rfl (fun K hK => ?_) AllReadyH.nil
  go_simp
  refine hK.out _ _ (HBN.out.mono HY1.out) (fun hHeld => ?_)
  clear hK K bs
  try simp only [Act.put, List.setIfInBounds_toArray, List.set_cons_zero, List.set_cons_succ, Array.toArray_toList, List.getElem_toArray, List.getElem_cons_zero, List.getElem_cons_succ]
  refine wpAnyH_ready (rs := [16]) (by kernel_rfl) (by simp) ?_
  refine AllReadyH.cons rfl (fun K hK => ?_) AllReadyH.nil
  go_simp
  refine (HLA.out).mono ?_
  rintro e Y ⟨rfl, hbY⟩
  dsimp only
  have HY := hid (HBN.out.trans (hbY.mono HBN.out.size))
  clear hbY
  refine hK.out _ _ (HY.out.mono HY1.out) (fun hHeld => ?_)
  clear hK K
  try simp only [Act.put, List.setIfInBounds_toArray, List.set_cons_zero, List.set_cons_succ, Array.toArray_toList, List.getElem_toArray, List.getElem_cons_zero, List.getElem_cons_succ]
  have rY := HRR.out _ HY.out
  have s1 := sv24_run rY D
  have RY := hid rY
  clear rY
  refine wpAnyH_ready (rs := [17]) (by kernel_rfl) (by simp) ?_
  refine AllReadyH.cons rfl (fun K hK => ?_) AllReadyH.nil
  go_simp
  refine hK.out _ _ (below_row (HY.out.mono HY1.out) (Nat.le_refl _) _) (fun hHeld => ?_)
  clear hK K s1
  try simp only [Act.put, List.setIfInBounds_toArray, List.set_cons_zero, List.set_cons_succ, Array.toArray_toList, List.getElem_toArray, List.getElem_cons_zero, List.getElem_cons_succ]
  refine wpAnyH_done (by kernel_rfl) ?_ _
  refine NoPanic.normal ?_
  go_wp2
  refine ret24 _ (y + 1) _ 25 rfl rfl rfl (setRow_at RY.out) ⟨rfl, ?_⟩
  have e0 := EY.out
  have e1 := Z0.out
  exact below_row (HB0w.out.trans (HY.out.mono (by omega))) (by omega) _

end Go.Proofs.YtokbhcgooboocaaGreatDoor
