/-
  What Read answers.
-/
import Derived.Test.YtokbhcgooboocaaGreatDoorCoAp
import Derived.Test.YtokbhcgooboocaaGreatDoorCoBp
import Derived.Test.YtokbhcgooboocaaGreatDoorCoCp
import Derived.Test.YtokbhcgooboocaaGreatDoorThCheckpointp
namespace Go.Proofs.YtokbhcgooboocaaGreatDoor
open Go.RowKit
set_option linter.unusedVariables false
set_option linter.unusedSimpArgs false

attribute [local go_sem ↓] sv24_eq lv24_eq ix22_eq slr_eq bd27_eq bs22_eq sv8_eq mkI_eq ixI_eq ixP_eq bsP_eq bsI_eq lvCheckpoint_eq svCheckpoint_eq bdCheckpoint_eq lvData_eq svData_eq bdData_eq

end Go.Proofs.YtokbhcgooboocaaGreatDoor
namespace Go.Proofs.YtokbhcgooboocaaGreatDoor
open Go.RowKit
set_option linter.unusedVariables false
set_option linter.unusedSimpArgs false

attribute [local go_sem ↓] sv24_eq lv24_eq ix22_eq slr_eq bd27_eq bs22_eq sv8_eq mkI_eq ixI_eq ixP_eq bsP_eq bsI_eq lvCheckpoint_eq svCheckpoint_eq bdCheckpoint_eq lvData_eq svData_eq bdData_eq

set_option maxRecDepth 20000 in
set_option maxHeartbeats 2000000 in
theorem readData_ok (m : Nat → Int) (ao : Option Addr) (cap : Nat) (w : World) (hb : Bys w ao 128 cap m) (hm : ∀ j, 0 ≤ m j ∧ m j < 256) (hlc : 128 ≤ cap) (hcap : cap ≤ 9223372036854775807) :
    Calls Tryz.prog 39 #[.slice ao 128 cap] w fun e w' => e = .returned (.tuple #[.agg (cel (sData (pData m))), .int .i64 0]) ∧ Below w.heap.size w w' := by
  have z := zeroData
  obtain ⟨W1, hW1⟩ : ∃ W, w.alloc (.cells (cel (sData oData)) 29) = W := ⟨_, rfl⟩
  obtain ⟨W2, hW2⟩ : ∃ W, W1.alloc (.cells (vs .i64 5 zData) 3) = W := ⟨_, rfl⟩
  have hB1 : Below w.heap.size w W1 := by rw [← hW1]; exact (Below.refl _ _).alloc (Nat.le_refl _) _
  have z1 : W1.heap.size = w.heap.size + 1 := by rw [← hW1]; simp
  have z2 : W2.heap.size = w.heap.size + 2 := by rw [← hW2]; simp [z1]
  have hB2 : Below w.heap.size w W2 := by rw [← hW2]; exact hB1.alloc (by omega) _
  have r1 : W1.heap[w.heap.size]? = some (.cells (cel (sData oData)) 29) := by rw [← hW1]; exact heap_new rfl
  have r2 : W2.heap[w.heap.size]? = some (.cells (cel (sData oData)) 29) := by rw [← hW2]; exact (heap_old (by omega)).trans r1
  have g2 : W2.heap[W1.heap.size]? = some (.cells (vs .i64 5 zData) 3) := by rw [← hW2]; exact heap_new rfl
  have bsi := bsI_Data W1
  rw [hW2] at bsi
  have hcut := cut7_ok fixData m ao cap W1.heap.size W2 (hb.below hB2) hm (by omega) hlc hcap g2 (by omega) zposData (by omega)
  obtain ⟨y, ey⟩ : ∃ y, w.heap.size = y := ⟨_, rfl⟩
  obtain ⟨y1, ey1⟩ : ∃ y, W1.heap.size = y := ⟨_, rfl⟩
  rw [ey1] at bsi hcut
  have hy : y < W2.heap.size := by omega
  rw [ey] at r2
  have HCUT := hid hcut
  have R2 := hid r2
  have HB2 := hid hB2
  have HY := hid hy
  have EY := hid ey
  clear hcut r2 hB2 hy r1 g2 hB1 z1 z2 hlc hcap hb
  go_enter Tryz.func39, Tryz.ntmps39
  go_upto_region 2 with (go_at_call 37; refine HCUT.out.mono ?_; rintro e w1 ⟨gp, o, rfl, hgp, hcu, hb1⟩)
  clear hW1 hW2 ey ey1 bsi
  obtain ⟨b0, o0, c0, l0, q0⟩ := hcu 0 (by omega)
  replace l0 : w1.cell? ⟨gp, o + 0, none⟩ = some (.slice (some ⟨b0, o0, none⟩) 8 c0) := l0
  replace q0 : Bys w1 (some ⟨b0, o0, none⟩) 8 c0 (fun q => m (0 + q)) := q0
  obtain ⟨P0, eP0⟩ : ∃ P, o + 0 = P := ⟨_, rfl⟩
  rw [eP0] at l0
  have ix0 : ∀ X : World, (ixP (.slice (some ⟨gp, o, none⟩) 5 5) (.int .i64 0)).run Tryz.prog X = .ok (.pointer (some ⟨gp, P0, none⟩)) X := fun X => by rw [← eP0]; exact ixP_run X gp o 5 5 0 (by omega)
  obtain ⟨b1, o1, c1, l1, q1⟩ := hcu 1 (by omega)
  replace l1 : w1.cell? ⟨gp, o + 1, none⟩ = some (.slice (some ⟨b1, o1, none⟩) 8 c1) := l1
  replace q1 : Bys w1 (some ⟨b1, o1, none⟩) 8 c1 (fun q => m (8 + q)) := q1
  obtain ⟨P1, eP1⟩ : ∃ P, o + 1 = P := ⟨_, rfl⟩
  rw [eP1] at l1
  have ix1 : ∀ X : World, (ixP (.slice (some ⟨gp, o, none⟩) 5 5) (.int .i64 1)).run Tryz.prog X = .ok (.pointer (some ⟨gp, P1, none⟩)) X := fun X => by rw [← eP1]; exact ixP_run X gp o 5 5 1 (by omega)
  obtain ⟨b2, o2, c2, l2, q2⟩ := hcu 2 (by omega)
  replace l2 : w1.cell? ⟨gp, o + 2, none⟩ = some (.slice (some ⟨b2, o2, none⟩) 32 c2) := l2
  replace q2 : Bys w1 (some ⟨b2, o2, none⟩) 32 c2 (fun q => m (16 + q)) := q2
  obtain ⟨P2, eP2⟩ : ∃ P, o + 2 = P := ⟨_, rfl⟩
  rw [eP2] at l2
  have ix2 : ∀ X : World, (ixP (.slice (some ⟨gp, o, none⟩) 5 5) (.int .i64 2)).run Tryz.prog X = .ok (.pointer (some ⟨gp, P2, none⟩)) X := fun X => by rw [← eP2]; exact ixP_run X gp o 5 5 2 (by omega)
  obtain ⟨b3, o3, c3, l3, q3⟩ := hcu 3 (by omega)
  replace l3 : w1.cell? ⟨gp, o + 3, none⟩ = some (.slice (some ⟨b3, o3, none⟩) 40 c3) := l3
  replace q3 : Bys w1 (some ⟨b3, o3, none⟩) 40 c3 (fun q => m (48 + q)) := q3
  obtain ⟨P3, eP3⟩ : ∃ P, o + 3 = P := ⟨_, rfl⟩
  rw [eP3] at l3
  have ix3 : ∀ X : World, (ixP (.slice (some ⟨gp, o, none⟩) 5 5) (.int .i64 3)).run Tryz.prog X = .ok (.pointer (some ⟨gp, P3, none⟩)) X := fun X => by rw [← eP3]; exact ixP_run X gp o 5 5 3 (by omega)
  obtain ⟨b4, o4, c4, l4, q4⟩ := hcu 4 (by omega)
  replace l4 : w1.cell? ⟨gp, o + 4, none⟩ = some (.slice (some ⟨b4, o4, none⟩) 40 c4) := l4
  replace q4 : Bys w1 (some ⟨b4, o4, none⟩) 40 c4 (fun q => m (88 + q)) := q4
  obtain ⟨P4, eP4⟩ : ∃ P, o + 4 = P := ⟨_, rfl⟩
  rw [eP4] at l4
  have ix4 : ∀ X : World, (ixP (.slice (some ⟨gp, o, none⟩) 5 5) (.int .i64 4)).run Tryz.prog X = .ok (.pointer (some ⟨gp, P4, none⟩)) X := fun X => by rw [← eP4]; exact ixP_run X gp o 5 5 4 (by omega)
  obtain ⟨N0, eN0⟩ : ∃ N, rdN (fun q => m (0 + q)) = N := ⟨_, rfl⟩
  have hn0 : ∀ X, Below w1.heap.size w1 X → Calls Tryz.prog 81 #[.slice (some ⟨b0, o0, none⟩) 8 c0] X fun e w' => e = .returned (.int .u64 N0) ∧ w' = X := fun X h => by
    rw [← eN0]
    exact rnum7 (some ⟨b0, o0, none⟩) c0 (fun q => m (0 + q)) X (q0.below h) (fun j _ => hm _)
  have HN0 := hid hn0
  obtain ⟨N1, eN1⟩ : ∃ N, rdN (fun q => m (8 + q)) = N := ⟨_, rfl⟩
  have hn1 : ∀ X, Below w1.heap.size w1 X → Calls Tryz.prog 81 #[.slice (some ⟨b1, o1, none⟩) 8 c1] X fun e w' => e = .returned (.int .u64 N1) ∧ w' = X := fun X h => by
    rw [← eN1]
    exact rnum7 (some ⟨b1, o1, none⟩) c1 (fun q => m (8 + q)) X (q1.below h) (fun j _ => hm _)
  have HN1 := hid hn1
  obtain ⟨N3, eN3⟩ : ∃ N, pCheckpoint (fun q => m (48 + q)) = N := ⟨_, rfl⟩
  have hn3 : ∀ X, Below w1.heap.size w1 X → Calls Tryz.prog 82 #[.slice (some ⟨b3, o3, none⟩) 40 c3] X fun e w' => e = .returned (.tuple #[.agg (cel (sCheckpoint N3)), .int .i64 0]) ∧ Below X.heap.size X w' := fun X h => by
    rw [← eN3]
    exact readCheckpoint_ok _ _ c3 X (q3.below h) (fun j => hm _) (bys_le (q3.below h) (by omega)) (bys_cap (q3.below h) (by omega))
  have HN3 := hid hn3
  obtain ⟨N4, eN4⟩ : ∃ N, pCheckpoint (fun q => m (88 + q)) = N := ⟨_, rfl⟩
  have hn4 : ∀ X, Below w1.heap.size w1 X → Calls Tryz.prog 82 #[.slice (some ⟨b4, o4, none⟩) 40 c4] X fun e w' => e = .returned (.tuple #[.agg (cel (sCheckpoint N4)), .int .i64 0]) ∧ Below X.heap.size X w' := fun X h => by
    rw [← eN4]
    exact readCheckpoint_ok _ _ c4 X (q4.below h) (fun j => hm _) (bys_le (q4.below h) (by omega)) (bys_cap (q4.below h) (by omega))
  have HN4 := hid hn4
  have EN0 := hid eN0
  have EN1 := hid eN1
  have EN3 := hid eN3
  have EN4 := hid eN4
  have Q0 := hid q0
  have L0 := hid l0
  have Q1 := hid q1
  have L1 := hid l1
  have Q2 := hid q2
  have L2 := hid l2
  have Q3 := hid q3
  have L3 := hid l3
  have Q4 := hid q4
  have L4 := hid l4
  have HB1 := hid hb1
  have HGP := hid hgp
  have bd : ∀ X : World, (bdData #[(0, .int .u64 N0), (1, .int .u64 N1)]).run Tryz.prog X = .ok (.agg (cel (sData ⟨N0, N1, fun _ => 0, oCheckpoint, oCheckpoint⟩))) X := fun X => by kernel_rfl
  obtain ⟨g, eg⟩ : ∃ g, w1.heap.size = g := ⟨_, rfl⟩
  obtain ⟨wd, hwd⟩ : ∃ X, w1.drew = X := ⟨_, rfl⟩
  have egd : wd.heap.size = g := by rw [← hwd]; exact eg
  have hwe : Below g w1 wd := by rw [← hwd]; exact (Below.refl _ _).drew
  have HWD : Hid (Below g w1 w1.drew) := (Below.refl _ _).drew
  have hal : Below g w1 (wd.alloc (.cells (cel (sData oData)) 29)) := hwe.alloc (by rw [egd]; exact Nat.le_refl _) _
  have sv := svData_newv wd oData ⟨N0, N1, fun _ => 0, oCheckpoint, oCheckpoint⟩
  obtain ⟨V0, hV0⟩ : ∃ V, wd.alloc (.cells (cel (sData ⟨N0, N1, fun _ => 0, oCheckpoint, oCheckpoint⟩)) 29) = V := ⟨_, rfl⟩
  have hB0 : Below g w1 V0 := by rw [← hV0]; exact hwe.alloc (by rw [egd]; exact Nat.le_refl _) _
  have rV0 : V0.heap[g]? = some (.cells (cel (sData ⟨N0, N1, fun _ => 0, oCheckpoint, oCheckpoint⟩)) 29) := by rw [← hV0]; exact heap_new egd.symm
  rw [hV0, egd] at sv
  have EG := hid eg
  have HWE := hid hwe
  have HAL := hid hal
  have RV0 := hid rV0
  have HV0 := hid hB0
  clear rV0 hB0 q0 eP0 q1 eP1 q2 eP2 q3 eP3 q4 eP4 hn0 eN0 hn1 eN1 hn3 eN3 hn4 eN4 hb1 hgp hcu
  clear hwe hal eg
  go_upto_region 4 with fail
  refine wp_region_noPanic ?_
  refine wp_region_held_drew (S := fun X => Below g w1 X) (by kernel_rfl) (HWD.out) (fun hHeld => ?_)
  rw [hwd] at hHeld ⊢
  clear hwd
  refine wpAnyH_take (i := 0) (v := ?v249) rfl (by kernel_rfl) (by kernel_rfl) (by kernel_rfl) (fun _ _ _ h => h) (Or.inl ⟨by rfl, ?hy249⟩) hHeld ?rest249
  case hy249 =>
    intro w hSw
    go_simp
    try with_reducible rfl
  try simp only [Act.put, List.setIfInBounds_toArray, List.set_cons_zero, List.set_cons_succ, Array.toArray_toList, List.getElem_toArray, List.getElem_cons_zero, List.getElem_cons_succ]
  refine wpAnyH_take (i := 1) (v := ?v250) rfl (by kernel_rfl) (by kernel_rfl) (by kernel_rfl) (fun _ _ _ h => h) (Or.inl ⟨by rfl, ?hy250⟩) hHeld ?rest250
  case hy250 =>
    intro w hSw
    go_simp
    try with_reducible rfl
  try simp only [Act.put, List.setIfInBounds_toArray, List.set_cons_zero, List.set_cons_succ, Array.toArray_toList, List.getElem_toArray, List.getElem_cons_zero, List.getElem_cons_succ]
  refine wpAnyH_take (i := 2) (v := ?v251) rfl (by kernel_rfl) (by kernel_rfl) (by kernel_rfl) (fun _ _ _ h => h) (Or.inl ⟨by rfl, ?hy251⟩) hHeld ?rest251
  case hy251 =>
    intro w hSw
    have ld := (below_cell hSw (by rw [← EG.out]; exact HGP.out)).trans L0.out
    go_simp
    try with_reducible rfl
  try simp only [Act.put, List.setIfInBounds_toArray, List.set_cons_zero, List.set_cons_succ, Array.toArray_toList, List.getElem_toArray, List.getElem_cons_zero, List.getElem_cons_succ]
  refine wpAnyH_take (i := 4) (v := ?v252) rfl (by kernel_rfl) (by kernel_rfl) (by kernel_rfl) (fun _ _ _ h => h) (Or.inl ⟨by rfl, ?hy252⟩) hHeld ?rest252
  case hy252 =>
    intro w hSw
    go_simp
    try with_reducible rfl
  try simp only [Act.put, List.setIfInBounds_toArray, List.set_cons_zero, List.set_cons_succ, Array.toArray_toList, List.getElem_toArray, List.getElem_cons_zero, List.getElem_cons_succ]
  refine wpAnyH_take (i := 5) (v := ?v253) rfl (by kernel_rfl) (by kernel_rfl) (by kernel_rfl) (fun _ _ _ h => h) (Or.inl ⟨by rfl, ?hy253⟩) hHeld ?rest253
  case hy253 =>
    intro w hSw
    go_simp
    try with_reducible rfl
  try simp only [Act.put, List.setIfInBounds_toArray, List.set_cons_zero, List.set_cons_succ, Array.toArray_toList, List.getElem_toArray, List.getElem_cons_zero, List.getElem_cons_succ]
  refine wpAnyH_take (i := 6) (v := ?v254) rfl (by kernel_rfl) (by kernel_rfl) (by kernel_rfl) (fun _ _ _ h => h) (Or.inl ⟨by rfl, ?hy254⟩) hHeld ?rest254
  case hy254 =>
    intro w hSw
    have ld := (below_cell hSw (by rw [← EG.out]; exact HGP.out)).trans L1.out
    go_simp
    try with_reducible rfl
  try simp only [Act.put, List.setIfInBounds_toArray, List.set_cons_zero, List.set_cons_succ, Array.toArray_toList, List.getElem_toArray, List.getElem_cons_zero, List.getElem_cons_succ]
  refine wpAnyH_ready (rs := [3, 9]) (by kernel_rfl) (by simp) ?_
  refine AllReadyH.cons rfl (fun K hK => ?_) (AllReadyH.cons rfl (fun K hK => ?_) AllReadyH.nil)
  · go_simp
    refine (HN0.out _ (by rw [EG.out]; exact HWE.out)).mono ?_
    rintro e w2 ⟨rfl, rfl⟩
    dsimp only
    refine hK.out _ _ HWE.out (fun hHeld => ?_)
    clear hK K
    try simp only [Act.put, List.setIfInBounds_toArray, List.set_cons_zero, List.set_cons_succ, Array.toArray_toList, List.getElem_toArray, List.getElem_cons_zero, List.getElem_cons_succ]
    refine wpAnyH_ready (rs := [7, 9]) (by kernel_rfl) (by simp) ?_
    refine AllReadyH.cons rfl (fun K hK => ?_) (AllReadyH.cons rfl (fun K hK => ?_) AllReadyH.nil)
    · go_simp
      refine (HN1.out _ (by rw [EG.out]; exact HWE.out)).mono ?_
      rintro e w2 ⟨rfl, rfl⟩
      dsimp only
      refine hK.out _ _ HWE.out (fun hHeld => ?_)
      clear hK K
      try simp only [Act.put, List.setIfInBounds_toArray, List.set_cons_zero, List.set_cons_succ, Array.toArray_toList, List.getElem_toArray, List.getElem_cons_zero, List.getElem_cons_succ]
      refine wpAnyH_take (i := 8) (v := ?v255) rfl (by kernel_rfl) (by kernel_rfl) (by kernel_rfl) (fun _ _ _ h => h) (Or.inl ⟨by rfl, ?hy255⟩) hHeld ?rest255
      case hy255 =>
        intro w hSw
        go_simp
        try with_reducible rfl
      try simp only [Act.put, List.setIfInBounds_toArray, List.set_cons_zero, List.set_cons_succ, Array.toArray_toList, List.getElem_toArray, List.getElem_cons_zero, List.getElem_cons_succ]
      refine wpAnyH_ready (rs := [9]) (by kernel_rfl) (by simp) ?_
      refine AllReadyH.cons rfl (fun K hK => ?_) AllReadyH.nil
      go_simp
      refine hK.out _ _ HAL.out (fun hHeld => ?_)
      clear hK K
      try simp only [Act.put, List.setIfInBounds_toArray, List.set_cons_zero, List.set_cons_succ, Array.toArray_toList, List.getElem_toArray, List.getElem_cons_zero, List.getElem_cons_succ]
      refine wpAnyH_ready (rs := [10]) (by kernel_rfl) (by simp) ?_
      refine AllReadyH.cons rfl (fun K hK => ?_) AllReadyH.nil
      go_simp
      refine hK.out _ _ HV0.out (fun hHeld => ?_)
      clear hK K
      try simp only [Act.put, List.setIfInBounds_toArray, List.set_cons_zero, List.set_cons_succ, Array.toArray_toList, List.getElem_toArray, List.getElem_cons_zero, List.getElem_cons_succ]
      refine wpAnyH_done (by kernel_rfl) ?_ _
      refine NoPanic.normal ?_
      go_upto_region 5 with fail
      clear bd sv hV0 egd z
      have hsrc2 : ∀ j, j < 32 → (V0.drew).cell? (Addr.add ⟨b2, o2, none⟩ j) = some (.int .u8 (m (16 + j))) := fun j hj => by
        obtain ⟨b', o', e', _, _, h'⟩ := bys_at (Q2.out.below (w' := V0.drew) (by rw [EG.out]; exact HV0.out.drew)) (by omega)
        cases e'
        rw [Addr.add_mid]
        exact h' j hj
      have HCP0 := hid (copy_seg V0.drew g 2 32 (sData ⟨N0, N1, fun _ => 0, oCheckpoint, oCheckpoint⟩) (sData ⟨N0, N1, fun q => m (16 + q), oCheckpoint, oCheckpoint⟩) (fun q => m (16 + q)) ⟨b2, o2, none⟩ c2 32 29 RV0.out (by rw [slData]; omega) hsrc2 (by kernel_rfl))
      clear hsrc2
      refine wp_region_noPanic ?_
      refine wp_region_held_drew (S := fun X => Below g w1 X) (by kernel_rfl) (HV0.out.drew) (fun hHeld => ?_)
      refine wpAnyH_take (i := 0) (v := ?v256) rfl (by kernel_rfl) (by kernel_rfl) (by kernel_rfl) (fun _ _ _ h => h) (Or.inl ⟨by rfl, ?hy256⟩) hHeld ?rest256
      case hy256 =>
        intro w hSw
        go_simp
        try with_reducible rfl
      try simp only [Act.put, List.setIfInBounds_toArray, List.set_cons_zero, List.set_cons_succ, Array.toArray_toList, List.getElem_toArray, List.getElem_cons_zero, List.getElem_cons_succ]
      refine wpAnyH_take (i := 1) (v := ?v257) rfl (by kernel_rfl) (by kernel_rfl) (by kernel_rfl) (fun _ _ _ h => h) (Or.inl ⟨by rfl, ?hy257⟩) hHeld ?rest257
      case hy257 =>
        intro w hSw
        go_simp
        try with_reducible rfl
      try simp only [Act.put, List.setIfInBounds_toArray, List.set_cons_zero, List.set_cons_succ, Array.toArray_toList, List.getElem_toArray, List.getElem_cons_zero, List.getElem_cons_succ]
      refine wpAnyH_take (i := 2) (v := ?v258) rfl (by kernel_rfl) (by kernel_rfl) (by kernel_rfl) (fun _ _ _ h => h) (Or.inl ⟨by rfl, ?hy258⟩) hHeld ?rest258
      case hy258 =>
        intro w hSw
        go_simp
        try with_reducible rfl
      try simp only [Act.put, List.setIfInBounds_toArray, List.set_cons_zero, List.set_cons_succ, Array.toArray_toList, List.getElem_toArray, List.getElem_cons_zero, List.getElem_cons_succ]
      refine wpAnyH_take (i := 3) (v := ?v259) rfl (by kernel_rfl) (by kernel_rfl) (by kernel_rfl) (fun _ _ _ h => h) (Or.inl ⟨by rfl, ?hy259⟩) hHeld ?rest259
      case hy259 =>
        intro w hSw
        go_simp
        try with_reducible rfl
      try simp only [Act.put, List.setIfInBounds_toArray, List.set_cons_zero, List.set_cons_succ, Array.toArray_toList, List.getElem_toArray, List.getElem_cons_zero, List.getElem_cons_succ]
      refine wpAnyH_take (i := 4) (v := ?v260) rfl (by kernel_rfl) (by kernel_rfl) (by kernel_rfl) (fun _ _ _ h => h) (Or.inl ⟨by rfl, ?hy260⟩) hHeld ?rest260
      case hy260 =>
        intro w hSw
        have ld := (below_cell hSw (by rw [← EG.out]; exact HGP.out)).trans L2.out
        go_simp
        try with_reducible rfl
      try simp only [Act.put, List.setIfInBounds_toArray, List.set_cons_zero, List.set_cons_succ, Array.toArray_toList, List.getElem_toArray, List.getElem_cons_zero, List.getElem_cons_succ]
      refine wpAnyH_ready (rs := [5]) (by kernel_rfl) (by simp) ?_
      refine AllReadyH.cons rfl (fun K hK => ?_) AllReadyH.nil
      refine step_copy_is (by rfl) _ _ 34 34 (by rfl) _ _ _ _ (by rfl) (by rfl) HCP0.out ?_
      refine hK.out _ _ (below_row HV0.out.drew (Nat.le_refl _) _) (fun hHeld => ?_)
      clear hK K
      try simp only [Act.put, List.setIfInBounds_toArray, List.set_cons_zero, List.set_cons_succ, Array.toArray_toList, List.getElem_toArray, List.getElem_cons_zero, List.getElem_cons_succ]
      refine wpAnyH_done (by kernel_rfl) ?_ _
      refine NoPanic.normal ?_
      obtain ⟨V1, hV1⟩ : ∃ V, (V0.drew).setRow g (cel (sData ⟨N0, N1, fun q => m (16 + q), oCheckpoint, oCheckpoint⟩)) = V := ⟨_, rfl⟩
      have RV1 : Hid (V1.heap[g]? = some (.cells (cel (sData ⟨N0, N1, fun q => m (16 + q), oCheckpoint, oCheckpoint⟩)) 29)) := by rw [← hV1]; exact setRow_at (w := V0.drew) RV0.out
      have HV1 : Hid (Below g w1 V1) := by rw [← hV1]; exact below_row HV0.out.drew (Nat.le_refl _) _
      rw [hV1]
      clear hV1
      have ld := (below_cell HV1.out (by rw [← EG.out]; exact HGP.out)).trans L3.out
      have HRC := hid (HN3.out _ (by rw [EG.out]; exact HV1.out))
      go_upto_region 7 with (go_at_call 82; refine HRC.out.mono ?_; rintro e w2 ⟨rfl, hbc⟩; have rg := (hbc.block g (Array.getElem?_eq_some_iff.1 RV1.out).1).trans RV1.out; have sv := svCheckpoint_mid rg 34 N3 (by rw [cel_size, slData]; omega); have RG := hid rg; have HBC := hid hbc; clear rg hbc)
      obtain ⟨V2, hV⟩ : ∃ V, w2.setCells g 34 (celL (sCheckpoint N3)) = V := ⟨_, rfl⟩
      have RV2 : Hid (V2.heap[g]? = some (.cells (cel (sData ⟨N0, N1, fun q => m (16 + q), N3, oCheckpoint⟩)) 29)) := by rw [← hV]; exact (setCells_row _ _ RG.out).trans (congrArg (fun c => some (Obj.cells c 29)) (by kernel_rfl))
      have HV2 : Hid (Below g w1 V2) := by rw [← hV]; exact (HV1.out.trans (HBC.out.mono (Nat.le_of_lt (Array.getElem?_eq_some_iff.1 RV1.out).1))).trans ((setCells_kept _ _ (Kept.refl g w2)).below (Nat.le_refl _) (Nat.le_of_lt (Array.getElem?_eq_some_iff.1 RG.out).1))
      rw [hV]
      clear hV ld sv RG HBC HRC
      have ld := (below_cell HV2.out (by rw [← EG.out]; exact HGP.out)).trans L4.out
      have HRC := hid (HN4.out _ (by rw [EG.out]; exact HV2.out))
      go_upto_region 8 with (go_at_call 82; refine HRC.out.mono ?_; rintro e w2 ⟨rfl, hbc⟩; have rg := (hbc.block g (Array.getElem?_eq_some_iff.1 RV2.out).1).trans RV2.out; have sv := svCheckpoint_mid rg 67 N4 (by rw [cel_size, slData]; omega); have RG := hid rg; have HBC := hid hbc; clear rg hbc)
      obtain ⟨V3, hV⟩ : ∃ V, w2.setCells g 67 (celL (sCheckpoint N4)) = V := ⟨_, rfl⟩
      have RV3 : Hid (V3.heap[g]? = some (.cells (cel (sData ⟨N0, N1, fun q => m (16 + q), N3, N4⟩)) 29)) := by rw [← hV]; exact (setCells_row _ _ RG.out).trans (congrArg (fun c => some (Obj.cells c 29)) (by kernel_rfl))
      have HV3 : Hid (Below g w1 V3) := by rw [← hV]; exact (HV2.out.trans (HBC.out.mono (Nat.le_of_lt (Array.getElem?_eq_some_iff.1 RV2.out).1))).trans ((setCells_kept _ _ (Kept.refl g w2)).below (Nat.le_refl _) (Nat.le_of_lt (Array.getElem?_eq_some_iff.1 RG.out).1))
      rw [hV]
      clear hV ld sv RG HBC HRC
      obtain ⟨vv, ev⟩ : ∃ v : VData, ⟨N0, N1, fun q => m (16 + q), N3, N4⟩ = v := ⟨_, rfl⟩
      have rv := RV3.out
      rw [ev] at rv
      have rr : V3.heap[y]? = some (.cells (cel (sData oData)) 29) := (HV3.out.block _ (by rw [← EG.out]; exact Nat.lt_of_lt_of_le HY.out HB1.out.size)).trans ((HB1.out.block _ HY.out).trans R2.out)
      have sv := svData_run rr vv
      have lv := lvData_mid (x := vv) rv 0 (take_all _) rfl
      have RR := hid rr
      have EV := hid ev
      clear rr rv ev
      go_wp2
      refine retData _ _ y vv 29 _ rfl rfl rfl rfl (setRow_at RR.out) ⟨?_, ?_⟩
      · rw [← EV.out, ← EN0.out, ← EN1.out, ← EN3.out, ← EN4.out]
        rfl
      have e0 := EY.out
      have e1 := HB2.out.size
      have e2 := HB1.out.size
      have e3 := EG.out
      exact below_row (HB2.out.trans ((HB1.out.mono (by omega)).trans (HV3.out.mono (by omega)))) (by omega) _
    · go_simp
      refine hK.out _ _ HAL.out (fun hHeld => ?_)
      clear hK K
      try simp only [Act.put, List.setIfInBounds_toArray, List.set_cons_zero, List.set_cons_succ, Array.toArray_toList, List.getElem_toArray, List.getElem_cons_zero, List.getElem_cons_succ]
      refine wpAnyH_ready (rs := [7]) (by kernel_rfl) (by simp) ?_
      refine AllReadyH.cons rfl (fun K hK => ?_) AllReadyH.nil
      go_simp
      refine (HN1.out _ (by rw [EG.out]; exact HAL.out)).mono ?_
      rintro e w2 ⟨rfl, rfl⟩
      dsimp only
      refine hK.out _ _ HAL.out (fun hHeld => ?_)
      clear hK K
      try simp only [Act.put, List.setIfInBounds_toArray, List.set_cons_zero, List.set_cons_succ, Array.toArray_toList, List.getElem_toArray, List.getElem_cons_zero, List.getElem_cons_succ]
      refine wpAnyH_take (i := 8) (v := ?v261) rfl (by kernel_rfl) (by kernel_rfl) (by kernel_rfl) (fun _ _ _ h => h) (Or.inl ⟨by rfl, ?hy261⟩) hHeld ?rest261
      case hy261 =>
        intro w hSw
        go_simp
        try with_reducible rfl
      try simp only [Act.put, List.setIfInBounds_toArray, List.set_cons_zero, List.set_cons_succ, Array.toArray_toList, List.getElem_toArray, List.getElem_cons_zero, List.getElem_cons_succ]
      refine wpAnyH_ready (rs := [10]) (by kernel_rfl) (by simp) ?_
      refine AllReadyH.cons rfl (fun K hK => ?_) AllReadyH.nil
      go_simp
      refine hK.out _ _ HV0.out (fun hHeld => ?_)
      clear hK K
      try simp only [Act.put, List.setIfInBounds_toArray, List.set_cons_zero, List.set_cons_succ, Array.toArray_toList, List.getElem_toArray, List.getElem_cons_zero, List.getElem_cons_succ]
      refine wpAnyH_done (by kernel_rfl) ?_ _
      refine NoPanic.normal ?_
      go_upto_region 5 with fail
      clear bd sv hV0 egd z
      have hsrc2 : ∀ j, j < 32 → (V0.drew).cell? (Addr.add ⟨b2, o2, none⟩ j) = some (.int .u8 (m (16 + j))) := fun j hj => by
        obtain ⟨b', o', e', _, _, h'⟩ := bys_at (Q2.out.below (w' := V0.drew) (by rw [EG.out]; exact HV0.out.drew)) (by omega)
        cases e'
        rw [Addr.add_mid]
        exact h' j hj
      have HCP0 := hid (copy_seg V0.drew g 2 32 (sData ⟨N0, N1, fun _ => 0, oCheckpoint, oCheckpoint⟩) (sData ⟨N0, N1, fun q => m (16 + q), oCheckpoint, oCheckpoint⟩) (fun q => m (16 + q)) ⟨b2, o2, none⟩ c2 32 29 RV0.out (by rw [slData]; omega) hsrc2 (by kernel_rfl))
      clear hsrc2
      refine wp_region_noPanic ?_
      refine wp_region_held_drew (S := fun X => Below g w1 X) (by kernel_rfl) (HV0.out.drew) (fun hHeld => ?_)
      refine wpAnyH_take (i := 0) (v := ?v262) rfl (by kernel_rfl) (by kernel_rfl) (by kernel_rfl) (fun _ _ _ h => h) (Or.inl ⟨by rfl, ?hy262⟩) hHeld ?rest262
      case hy262 =>
        intro w hSw
        go_simp
        try with_reducible rfl
      try simp only [Act.put, List.setIfInBounds_toArray, List.set_cons_zero, List.set_cons_succ, Array.toArray_toList, List.getElem_toArray, List.getElem_cons_zero, List.getElem_cons_succ]
      refine wpAnyH_take (i := 1) (v := ?v263) rfl (by kernel_rfl) (by kernel_rfl) (by kernel_rfl) (fun _ _ _ h => h) (Or.inl ⟨by rfl, ?hy263⟩) hHeld ?rest263
      case hy263 =>
        intro w hSw
        go_simp
        try with_reducible rfl
      try simp only [Act.put, List.setIfInBounds_toArray, List.set_cons_zero, List.set_cons_succ, Array.toArray_toList, List.getElem_toArray, List.getElem_cons_zero, List.getElem_cons_succ]
      refine wpAnyH_take (i := 2) (v := ?v264) rfl (by kernel_rfl) (by kernel_rfl) (by kernel_rfl) (fun _ _ _ h => h) (Or.inl ⟨by rfl, ?hy264⟩) hHeld ?rest264
      case hy264 =>
        intro w hSw
        go_simp
        try with_reducible rfl
      try simp only [Act.put, List.setIfInBounds_toArray, List.set_cons_zero, List.set_cons_succ, Array.toArray_toList, List.getElem_toArray, List.getElem_cons_zero, List.getElem_cons_succ]
      refine wpAnyH_take (i := 3) (v := ?v265) rfl (by kernel_rfl) (by kernel_rfl) (by kernel_rfl) (fun _ _ _ h => h) (Or.inl ⟨by rfl, ?hy265⟩) hHeld ?rest265
      case hy265 =>
        intro w hSw
        go_simp
        try with_reducible rfl
      try simp only [Act.put, List.setIfInBounds_toArray, List.set_cons_zero, List.set_cons_succ, Array.toArray_toList, List.getElem_toArray, List.getElem_cons_zero, List.getElem_cons_succ]
      refine wpAnyH_take (i := 4) (v := ?v266) rfl (by kernel_rfl) (by kernel_rfl) (by kernel_rfl) (fun _ _ _ h => h) (Or.inl ⟨by rfl, ?hy266⟩) hHeld ?rest266
      case hy266 =>
        intro w hSw
        have ld := (below_cell hSw (by rw [← EG.out]; exact HGP.out)).trans L2.out
        go_simp
        try with_reducible rfl
      try simp only [Act.put, List.setIfInBounds_toArray, List.set_cons_zero, List.set_cons_succ, Array.toArray_toList, List.getElem_toArray, List.getElem_cons_zero, List.getElem_cons_succ]
      refine wpAnyH_ready (rs := [5]) (by kernel_rfl) (by simp) ?_
      refine AllReadyH.cons rfl (fun K hK => ?_) AllReadyH.nil
      refine step_copy_is (by rfl) _ _ 34 34 (by rfl) _ _ _ _ (by rfl) (by rfl) HCP0.out ?_
      refine hK.out _ _ (below_row HV0.out.drew (Nat.le_refl _) _) (fun hHeld => ?_)
      clear hK K
      try simp only [Act.put, List.setIfInBounds_toArray, List.set_cons_zero, List.set_cons_succ, Array.toArray_toList, List.getElem_toArray, List.getElem_cons_zero, List.getElem_cons_succ]
      refine wpAnyH_done (by kernel_rfl) ?_ _
      refine NoPanic.normal ?_
      obtain ⟨V1, hV1⟩ : ∃ V, (V0.drew).setRow g (cel (sData ⟨N0, N1, fun q => m (16 + q), oCheckpoint, oCheckpoint⟩)) = V := ⟨_, rfl⟩
      have RV1 : Hid (V1.heap[g]? = some (.cells (cel (sData ⟨N0, N1, fun q => m (16 + q), oCheckpoint, oCheckpoint⟩)) 29)) := by rw [← hV1]; exact setRow_at (w := V0.drew) RV0.out
      have HV1 : Hid (Below g w1 V1) := by rw [← hV1]; exact below_row HV0.out.drew (Nat.le_refl _) _
      rw [hV1]
      clear hV1
      have ld := (below_cell HV1.out (by rw [← EG.out]; exact HGP.out)).trans L3.out
      have HRC := hid (HN3.out _ (by rw [EG.out]; exact HV1.out))
      go_upto_region 7 with (go_at_call 82; refine HRC.out.mono ?_; rintro e w2 ⟨rfl, hbc⟩; have rg := (hbc.block g (Array.getElem?_eq_some_iff.1 RV1.out).1).trans RV1.out; have sv := svCheckpoint_mid rg 34 N3 (by rw [cel_size, slData]; omega); have RG := hid rg; have HBC := hid hbc; clear rg hbc)
      obtain ⟨V2, hV⟩ : ∃ V, w2.setCells g 34 (celL (sCheckpoint N3)) = V := ⟨_, rfl⟩
      have RV2 : Hid (V2.heap[g]? = some (.cells (cel (sData ⟨N0, N1, fun q => m (16 + q), N3, oCheckpoint⟩)) 29)) := by rw [← hV]; exact (setCells_row _ _ RG.out).trans (congrArg (fun c => some (Obj.cells c 29)) (by kernel_rfl))
      have HV2 : Hid (Below g w1 V2) := by rw [← hV]; exact (HV1.out.trans (HBC.out.mono (Nat.le_of_lt (Array.getElem?_eq_some_iff.1 RV1.out).1))).trans ((setCells_kept _ _ (Kept.refl g w2)).below (Nat.le_refl _) (Nat.le_of_lt (Array.getElem?_eq_some_iff.1 RG.out).1))
      rw [hV]
      clear hV ld sv RG HBC HRC
      have ld := (below_cell HV2.out (by rw [← EG.out]; exact HGP.out)).trans L4.out
      have HRC := hid (HN4.out _ (by rw [EG.out]; exact HV2.out))
      go_upto_region 8 with (go_at_call 82; refine HRC.out.mono ?_; rintro e w2 ⟨rfl, hbc⟩; have rg := (hbc.block g (Array.getElem?_eq_some_iff.1 RV2.out).1).trans RV2.out; have sv := svCheckpoint_mid rg 67 N4 (by rw [cel_size, slData]; omega); have RG := hid rg; have HBC := hid hbc; clear rg hbc)
      obtain ⟨V3, hV⟩ : ∃ V, w2.setCells g 67 (celL (sCheckpoint N4)) = V := ⟨_, rfl⟩
      have RV3 : Hid (V3.heap[g]? = some (.cells (cel (sData ⟨N0, N1, fun q => m (16 + q), N3, N4⟩)) 29)) := by rw [← hV]; exact (setCells_row _ _ RG.out).trans (congrArg (fun c => some (Obj.cells c 29)) (by kernel_rfl))
      have HV3 : Hid (Below g w1 V3) := by rw [← hV]; exact (HV2.out.trans (HBC.out.mono (Nat.le_of_lt (Array.getElem?_eq_some_iff.1 RV2.out).1))).trans ((setCells_kept _ _ (Kept.refl g w2)).below (Nat.le_refl _) (Nat.le_of_lt (Array.getElem?_eq_some_iff.1 RG.out).1))
      rw [hV]
      clear hV ld sv RG HBC HRC
      obtain ⟨vv, ev⟩ : ∃ v : VData, ⟨N0, N1, fun q => m (16 + q), N3, N4⟩ = v := ⟨_, rfl⟩
      have rv := RV3.out
      rw [ev] at rv
      have rr : V3.heap[y]? = some (.cells (cel (sData oData)) 29) := (HV3.out.block _ (by rw [← EG.out]; exact Nat.lt_of_lt_of_le HY.out HB1.out.size)).trans ((HB1.out.block _ HY.out).trans R2.out)
      have sv := svData_run rr vv
      have lv := lvData_mid (x := vv) rv 0 (take_all _) rfl
      have RR := hid rr
      have EV := hid ev
      clear rr rv ev
      go_wp2
      refine retData _ _ y vv 29 _ rfl rfl rfl rfl (setRow_at RR.out) ⟨?_, ?_⟩
      · rw [← EV.out, ← EN0.out, ← EN1.out, ← EN3.out, ← EN4.out]
        rfl
      have e0 := EY.out
      have e1 := HB2.out.size
      have e2 := HB1.out.size
      have e3 := EG.out
      exact below_row (HB2.out.trans ((HB1.out.mono (by omega)).trans (HV3.out.mono (by omega)))) (by omega) _
  · go_simp
    refine hK.out _ _ HAL.out (fun hHeld => ?_)
    clear hK K
    try simp only [Act.put, List.setIfInBounds_toArray, List.set_cons_zero, List.set_cons_succ, Array.toArray_toList, List.getElem_toArray, List.getElem_cons_zero, List.getElem_cons_succ]
    refine wpAnyH_ready (rs := [3]) (by kernel_rfl) (by simp) ?_
    refine AllReadyH.cons rfl (fun K hK => ?_) AllReadyH.nil
    go_simp
    refine (HN0.out _ (by rw [EG.out]; exact HAL.out)).mono ?_
    rintro e w2 ⟨rfl, rfl⟩
    dsimp only
    refine hK.out _ _ HAL.out (fun hHeld => ?_)
    clear hK K
    try simp only [Act.put, List.setIfInBounds_toArray, List.set_cons_zero, List.set_cons_succ, Array.toArray_toList, List.getElem_toArray, List.getElem_cons_zero, List.getElem_cons_succ]
    refine wpAnyH_ready (rs := [7]) (by kernel_rfl) (by simp) ?_
    refine AllReadyH.cons rfl (fun K hK => ?_) AllReadyH.nil
    go_simp
    refine (HN1.out _ (by rw [EG.out]; exact HAL.out)).mono ?_
    rintro e w2 ⟨rfl, rfl⟩
    dsimp only
    refine hK.out _ _ HAL.out (fun hHeld => ?_)
    clear hK K
    try simp only [Act.put, List.setIfInBounds_toArray, List.set_cons_zero, List.set_cons_succ, Array.toArray_toList, List.getElem_toArray, List.getElem_cons_zero, List.getElem_cons_succ]
    refine wpAnyH_take (i := 8) (v := ?v267) rfl (by kernel_rfl) (by kernel_rfl) (by kernel_rfl) (fun _ _ _ h => h) (Or.inl ⟨by rfl, ?hy267⟩) hHeld ?rest267
    case hy267 =>
      intro w hSw
      go_simp
      try with_reducible rfl
    try simp only [Act.put, List.setIfInBounds_toArray, List.set_cons_zero, List.set_cons_succ, Array.toArray_toList, List.getElem_toArray, List.getElem_cons_zero, List.getElem_cons_succ]
    refine wpAnyH_ready (rs := [10]) (by kernel_rfl) (by simp) ?_
    refine AllReadyH.cons rfl (fun K hK => ?_) AllReadyH.nil
    go_simp
    refine hK.out _ _ HV0.out (fun hHeld => ?_)
    clear hK K
    try simp only [Act.put, List.setIfInBounds_toArray, List.set_cons_zero, List.set_cons_succ, Array.toArray_toList, List.getElem_toArray, List.getElem_cons_zero, List.getElem_cons_succ]
    refine wpAnyH_done (by kernel_rfl) ?_ _
    refine NoPanic.normal ?_
    go_upto_region 5 with fail
    clear bd sv hV0 egd z
    have hsrc2 : ∀ j, j < 32 → (V0.drew).cell? (Addr.add ⟨b2, o2, none⟩ j) = some (.int .u8 (m (16 + j))) := fun j hj => by
      obtain ⟨b', o', e', _, _, h'⟩ := bys_at (Q2.out.below (w' := V0.drew) (by rw [EG.out]; exact HV0.out.drew)) (by omega)
      cases e'
      rw [Addr.add_mid]
      exact h' j hj
    have HCP0 := hid (copy_seg V0.drew g 2 32 (sData ⟨N0, N1, fun _ => 0, oCheckpoint, oCheckpoint⟩) (sData ⟨N0, N1, fun q => m (16 + q), oCheckpoint, oCheckpoint⟩) (fun q => m (16 + q)) ⟨b2, o2, none⟩ c2 32 29 RV0.out (by rw [slData]; omega) hsrc2 (by kernel_rfl))
    clear hsrc2
    refine wp_region_noPanic ?_
    refine wp_region_held_drew (S := fun X => Below g w1 X) (by kernel_rfl) (HV0.out.drew) (fun hHeld => ?_)
    refine wpAnyH_take (i := 0) (v := ?v268) rfl (by kernel_rfl) (by kernel_rfl) (by kernel_rfl) (fun _ _ _ h => h) (Or.inl ⟨by rfl, ?hy268⟩) hHeld ?rest268
    case hy268 =>
      intro w hSw
      go_simp
      try with_reducible rfl
    try simp only [Act.put, List.setIfInBounds_toArray, List.set_cons_zero, List.set_cons_succ, Array.toArray_toList, List.getElem_toArray, List.getElem_cons_zero, List.getElem_cons_succ]
    refine wpAnyH_take (i := 1) (v := ?v269) rfl (by kernel_rfl) (by kernel_rfl) (by kernel_rfl) (fun _ _ _ h => h) (Or.inl ⟨by rfl, ?hy269⟩) hHeld ?rest269
    case hy269 =>
      intro w hSw
      go_simp
      try with_reducible rfl
    try simp only [Act.put, List.setIfInBounds_toArray, List.set_cons_zero, List.set_cons_succ, Array.toArray_toList, List.getElem_toArray, List.getElem_cons_zero, List.getElem_cons_succ]
    refine wpAnyH_take (i := 2) (v := ?v270) rfl (by kernel_rfl) (by kernel_rfl) (by kernel_rfl) (fun _ _ _ h => h) (Or.inl ⟨by rfl, ?hy270⟩) hHeld ?rest270
    case hy270 =>
      intro w hSw
      go_simp
      try with_reducible rfl
    try simp only [Act.put, List.setIfInBounds_toArray, List.set_cons_zero, List.set_cons_succ, Array.toArray_toList, List.getElem_toArray, List.getElem_cons_zero, List.getElem_cons_succ]
    refine wpAnyH_take (i := 3) (v := ?v271) rfl (by kernel_rfl) (by kernel_rfl) (by kernel_rfl) (fun _ _ _ h => h) (Or.inl ⟨by rfl, ?hy271⟩) hHeld ?rest271
    case hy271 =>
      intro w hSw
      go_simp
      try with_reducible rfl
    try simp only [Act.put, List.setIfInBounds_toArray, List.set_cons_zero, List.set_cons_succ, Array.toArray_toList, List.getElem_toArray, List.getElem_cons_zero, List.getElem_cons_succ]
    refine wpAnyH_take (i := 4) (v := ?v272) rfl (by kernel_rfl) (by kernel_rfl) (by kernel_rfl) (fun _ _ _ h => h) (Or.inl ⟨by rfl, ?hy272⟩) hHeld ?rest272
    case hy272 =>
      intro w hSw
      have ld := (below_cell hSw (by rw [← EG.out]; exact HGP.out)).trans L2.out
      go_simp
      try with_reducible rfl
    try simp only [Act.put, List.setIfInBounds_toArray, List.set_cons_zero, List.set_cons_succ, Array.toArray_toList, List.getElem_toArray, List.getElem_cons_zero, List.getElem_cons_succ]
    refine wpAnyH_ready (rs := [5]) (by kernel_rfl) (by simp) ?_
    refine AllReadyH.cons rfl (fun K hK => ?_) AllReadyH.nil
    refine step_copy_is (by rfl) _ _ 34 34 (by rfl) _ _ _ _ (by rfl) (by rfl) HCP0.out ?_
    refine hK.out _ _ (below_row HV0.out.drew (Nat.le_refl _) _) (fun hHeld => ?_)
    clear hK K
    try simp only [Act.put, List.setIfInBounds_toArray, List.set_cons_zero, List.set_cons_succ, Array.toArray_toList, List.getElem_toArray, List.getElem_cons_zero, List.getElem_cons_succ]
    refine wpAnyH_done (by kernel_rfl) ?_ _
    refine NoPanic.normal ?_
    obtain ⟨V1, hV1⟩ : ∃ V, (V0.drew).setRow g (cel (sData ⟨N0, N1, fun q => m (16 + q), oCheckpoint, oCheckpoint⟩)) = V := ⟨_, rfl⟩
    have RV1 : Hid (V1.heap[g]? = some (.cells (cel (sData ⟨N0, N1, fun q => m (16 + q), oCheckpoint, oCheckpoint⟩)) 29)) := by rw [← hV1]; exact setRow_at (w := V0.drew) RV0.out
    have HV1 : Hid (Below g w1 V1) := by rw [← hV1]; exact below_row HV0.out.drew (Nat.le_refl _) _
    rw [hV1]
    clear hV1
    have ld := (below_cell HV1.out (by rw [← EG.out]; exact HGP.out)).trans L3.out
    have HRC := hid (HN3.out _ (by rw [EG.out]; exact HV1.out))
    go_upto_region 7 with (go_at_call 82; refine HRC.out.mono ?_; rintro e w2 ⟨rfl, hbc⟩; have rg := (hbc.block g (Array.getElem?_eq_some_iff.1 RV1.out).1).trans RV1.out; have sv := svCheckpoint_mid rg 34 N3 (by rw [cel_size, slData]; omega); have RG := hid rg; have HBC := hid hbc; clear rg hbc)
    obtain ⟨V2, hV⟩ : ∃ V, w2.setCells g 34 (celL (sCheckpoint N3)) = V := ⟨_, rfl⟩
    have RV2 : Hid (V2.heap[g]? = some (.cells (cel (sData ⟨N0, N1, fun q => m (16 + q), N3, oCheckpoint⟩)) 29)) := by rw [← hV]; exact (setCells_row _ _ RG.out).trans (congrArg (fun c => some (Obj.cells c 29)) (by kernel_rfl))
    have HV2 : Hid (Below g w1 V2) := by rw [← hV]; exact (HV1.out.trans (HBC.out.mono (Nat.le_of_lt (Array.getElem?_eq_some_iff.1 RV1.out).1))).trans ((setCells_kept _ _ (Kept.refl g w2)).below (Nat.le_refl _) (Nat.le_of_lt (Array.getElem?_eq_some_iff.1 RG.out).1))
    rw [hV]
    clear hV ld sv RG HBC HRC
    have ld := (below_cell HV2.out (by rw [← EG.out]; exact HGP.out)).trans L4.out
    have HRC := hid (HN4.out _ (by rw [EG.out]; exact HV2.out))
    go_upto_region 8 with (go_at_call 82; refine HRC.out.mono ?_; rintro e w2 ⟨rfl, hbc⟩; have rg := (hbc.block g (Array.getElem?_eq_some_iff.1 RV2.out).1).trans RV2.out; have sv := svCheckpoint_mid rg 67 N4 (by rw [cel_size, slData]; omega); have RG := hid rg; have HBC := hid hbc; clear rg hbc)
    obtain ⟨V3, hV⟩ : ∃ V, w2.setCells g 67 (celL (sCheckpoint N4)) = V := ⟨_, rfl⟩
    have RV3 : Hid (V3.heap[g]? = some (.cells (cel (sData ⟨N0, N1, fun q => m (16 + q), N3, N4⟩)) 29)) := by rw [← hV]; exact (setCells_row _ _ RG.out).trans (congrArg (fun c => some (Obj.cells c 29)) (by kernel_rfl))
    have HV3 : Hid (Below g w1 V3) := by rw [← hV]; exact (HV2.out.trans (HBC.out.mono (Nat.le_of_lt (Array.getElem?_eq_some_iff.1 RV2.out).1))).trans ((setCells_kept _ _ (Kept.refl g w2)).below (Nat.le_refl _) (Nat.le_of_lt (Array.getElem?_eq_some_iff.1 RG.out).1))
    rw [hV]
    clear hV ld sv RG HBC HRC
    obtain ⟨vv, ev⟩ : ∃ v : VData, ⟨N0, N1, fun q => m (16 + q), N3, N4⟩ = v := ⟨_, rfl⟩
    have rv := RV3.out
    rw [ev] at rv
    have rr : V3.heap[y]? = some (.cells (cel (sData oData)) 29) := (HV3.out.block _ (by rw [← EG.out]; exact Nat.lt_of_lt_of_le HY.out HB1.out.size)).trans ((HB1.out.block _ HY.out).trans R2.out)
    have sv := svData_run rr vv
    have lv := lvData_mid (x := vv) rv 0 (take_all _) rfl
    have RR := hid rr
    have EV := hid ev
    clear rr rv ev
    go_wp2
    refine retData _ _ y vv 29 _ rfl rfl rfl rfl (setRow_at RR.out) ⟨?_, ?_⟩
    · rw [← EV.out, ← EN0.out, ← EN1.out, ← EN3.out, ← EN4.out]
      rfl
    have e0 := EY.out
    have e1 := HB2.out.size
    have e2 := HB1.out.size
    have e3 := EG.out
    exact below_row (HB2.out.trans ((HB1.out.mono (by omega)).trans (HV3.out.mono (by omega)))) (by omega) _

end Go.Proofs.YtokbhcgooboocaaGreatDoor
