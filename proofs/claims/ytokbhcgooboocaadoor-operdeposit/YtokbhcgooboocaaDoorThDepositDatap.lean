/-
  What Read answers.
-/
import Derived.Test.YtokbhcgooboocaaDoorCoAp
import Derived.Test.YtokbhcgooboocaaDoorCoBp
namespace Go.Proofs.YtokbhcgooboocaaDoor
open Go.RowKit
set_option linter.unusedVariables false
set_option linter.unusedSimpArgs false

attribute [local go_sem ↓] sv24_eq lv24_eq ix22_eq slr_eq bd27_eq bs22_eq sv8_eq mkI_eq ixI_eq ixP_eq bsP_eq bsI_eq lvCheckpoint_eq svCheckpoint_eq bdCheckpoint_eq lvData_eq svData_eq bdData_eq lvHeader_eq svHeader_eq bdHeader_eq lvDepositData_eq svDepositData_eq bdDepositData_eq lvSignedHeader_eq svSignedHeader_eq bdSignedHeader_eq

set_option maxRecDepth 20000 in
set_option maxHeartbeats 2000000 in
theorem readDepositData_ok (m : Nat → Int) (ao : Option Addr) (cap : Nat) (w : World) (hb : Bys w ao 184 cap m) (hm : ∀ j, 0 ≤ m j ∧ m j < 256) (hlc : 184 ≤ cap) (hcap : cap ≤ 9223372036854775807) :
    Calls Tryd.prog 62 #[.slice ao 184 cap] w fun e w' => e = .returned (.tuple #[.agg (cel (sDepositData (pDepositData m))), .int .i64 0]) ∧ Below w.heap.size w w' := by
  have z := zeroDepositData
  obtain ⟨W1, hW1⟩ : ∃ W, w.alloc (.cells (cel (sDepositData oDepositData)) 59) = W := ⟨_, rfl⟩
  obtain ⟨W2, hW2⟩ : ∃ W, W1.alloc (.cells (vs .i64 4 zDepositData) 3) = W := ⟨_, rfl⟩
  have hB1 : Below w.heap.size w W1 := by rw [← hW1]; exact (Below.refl _ _).alloc (Nat.le_refl _) _
  have z1 : W1.heap.size = w.heap.size + 1 := by rw [← hW1]; simp
  have z2 : W2.heap.size = w.heap.size + 2 := by rw [← hW2]; simp [z1]
  have hB2 : Below w.heap.size w W2 := by rw [← hW2]; exact hB1.alloc (by omega) _
  have r1 : W1.heap[w.heap.size]? = some (.cells (cel (sDepositData oDepositData)) 59) := by rw [← hW1]; exact heap_new rfl
  have r2 : W2.heap[w.heap.size]? = some (.cells (cel (sDepositData oDepositData)) 59) := by rw [← hW2]; exact (heap_old (by omega)).trans r1
  have g2 : W2.heap[W1.heap.size]? = some (.cells (vs .i64 4 zDepositData) 3) := by rw [← hW2]; exact heap_new rfl
  have bsi := bsI_DepositData W1
  rw [hW2] at bsi
  have hcut := cut7_ok fixDepositData m ao cap W1.heap.size W2 (hb.below hB2) hm (by omega) hlc hcap g2 (by omega) zposDepositData (by omega)
  obtain ⟨y, ey⟩ : ∃ y, w.heap.size = y := ⟨_, rfl⟩
  obtain ⟨y1, ey1⟩ : ∃ y, W1.heap.size = y := ⟨_, rfl⟩
  rw [ey1] at bsi hcut
  have hy : y < W2.heap.size := by omega
  rw [ey] at r2
  have HCUT := hid hcut
  have R2 := hid r2
  have HB2 := hid hB2
  have HY := hid hy
  have EY := hid ey
  clear hcut r2 hB2 hy r1 g2 hB1 z1 z2 hlc hcap hb
  go_enter Tryd.func62, Tryd.ntmps62
  go_upto_region 2 with (go_at_call 40; refine HCUT.out.mono ?_; rintro e w1 ⟨gp, o, rfl, hgp, hcu, hb1⟩)
  clear hW1 hW2 ey ey1 bsi
  obtain ⟨b0, o0, c0, l0, q0⟩ := hcu 0 (by omega)
  replace l0 : w1.cell? ⟨gp, o + 0, none⟩ = some (.slice (some ⟨b0, o0, none⟩) 48 c0) := l0
  replace q0 : Bys w1 (some ⟨b0, o0, none⟩) 48 c0 (fun q => m (0 + q)) := q0
  obtain ⟨P0, eP0⟩ : ∃ P, o + 0 = P := ⟨_, rfl⟩
  rw [eP0] at l0
  have ix0 : ∀ X : World, (ixP (.slice (some ⟨gp, o, none⟩) 4 4) (.int .i64 0)).run Tryd.prog X = .ok (.pointer (some ⟨gp, P0, none⟩)) X := fun X => by rw [← eP0]; exact ixP_run X gp o 4 4 0 (by omega)
  obtain ⟨b1, o1, c1, l1, q1⟩ := hcu 1 (by omega)
  replace l1 : w1.cell? ⟨gp, o + 1, none⟩ = some (.slice (some ⟨b1, o1, none⟩) 32 c1) := l1
  replace q1 : Bys w1 (some ⟨b1, o1, none⟩) 32 c1 (fun q => m (48 + q)) := q1
  obtain ⟨P1, eP1⟩ : ∃ P, o + 1 = P := ⟨_, rfl⟩
  rw [eP1] at l1
  have ix1 : ∀ X : World, (ixP (.slice (some ⟨gp, o, none⟩) 4 4) (.int .i64 1)).run Tryd.prog X = .ok (.pointer (some ⟨gp, P1, none⟩)) X := fun X => by rw [← eP1]; exact ixP_run X gp o 4 4 1 (by omega)
  obtain ⟨b2, o2, c2, l2, q2⟩ := hcu 2 (by omega)
  replace l2 : w1.cell? ⟨gp, o + 2, none⟩ = some (.slice (some ⟨b2, o2, none⟩) 8 c2) := l2
  replace q2 : Bys w1 (some ⟨b2, o2, none⟩) 8 c2 (fun q => m (80 + q)) := q2
  obtain ⟨P2, eP2⟩ : ∃ P, o + 2 = P := ⟨_, rfl⟩
  rw [eP2] at l2
  have ix2 : ∀ X : World, (ixP (.slice (some ⟨gp, o, none⟩) 4 4) (.int .i64 2)).run Tryd.prog X = .ok (.pointer (some ⟨gp, P2, none⟩)) X := fun X => by rw [← eP2]; exact ixP_run X gp o 4 4 2 (by omega)
  obtain ⟨b3, o3, c3, l3, q3⟩ := hcu 3 (by omega)
  replace l3 : w1.cell? ⟨gp, o + 3, none⟩ = some (.slice (some ⟨b3, o3, none⟩) 96 c3) := l3
  replace q3 : Bys w1 (some ⟨b3, o3, none⟩) 96 c3 (fun q => m (88 + q)) := q3
  obtain ⟨P3, eP3⟩ : ∃ P, o + 3 = P := ⟨_, rfl⟩
  rw [eP3] at l3
  have ix3 : ∀ X : World, (ixP (.slice (some ⟨gp, o, none⟩) 4 4) (.int .i64 3)).run Tryd.prog X = .ok (.pointer (some ⟨gp, P3, none⟩)) X := fun X => by rw [← eP3]; exact ixP_run X gp o 4 4 3 (by omega)
  obtain ⟨N2, eN2⟩ : ∃ N, rdN (fun q => m (80 + q)) = N := ⟨_, rfl⟩
  have hn2 : ∀ X, Below w1.heap.size w1 X → Calls Tryd.prog 94 #[.slice (some ⟨b2, o2, none⟩) 8 c2] X fun e w' => e = .returned (.int .u64 N2) ∧ w' = X := fun X h => by
    rw [← eN2]
    exact rnum7 (some ⟨b2, o2, none⟩) c2 (fun q => m (80 + q)) X (q2.below h) (fun j _ => hm _)
  have HN2 := hid hn2
  have bd : ∀ X : World, (bdDepositData #[(2, .int .u64 N2)]).run Tryd.prog X = .ok (.agg (cel (sDepositData ⟨fun _ => 0, fun _ => 0, N2, fun _ => 0⟩))) X := fun X => by kernel_rfl
  have sv := svDepositData_newv w1 oDepositData ⟨fun _ => 0, fun _ => 0, N2, fun _ => 0⟩
  obtain ⟨g, eg⟩ : ∃ g, w1.heap.size = g := ⟨_, rfl⟩
  obtain ⟨V0, hV0⟩ : ∃ V, w1.alloc (.cells (cel (sDepositData ⟨fun _ => 0, fun _ => 0, N2, fun _ => 0⟩)) 59) = V := ⟨_, rfl⟩
  have hB0 : Below g w1 V0 := by rw [← hV0, ← eg]; exact (Below.refl _ _).alloc (Nat.le_refl _) _
  have rV0 : V0.heap[g]? = some (.cells (cel (sDepositData ⟨fun _ => 0, fun _ => 0, N2, fun _ => 0⟩)) 59) := by rw [← hV0]; exact heap_new eg.symm
  rw [hV0, eg] at sv
  have ez := z w1
  have EG := hid eg
  have EN2 := hid eN2
  have Q0 := hid q0
  have L0 := hid l0
  have Q1 := hid q1
  have L1 := hid l1
  have Q2 := hid q2
  have L2 := hid l2
  have Q3 := hid q3
  have L3 := hid l3
  have RV0 := hid rV0
  have HV0 := hid hB0
  have HB1 := hid hb1
  have HGP := hid hgp
  clear rV0 hB0 hb1 hgp hcu q0 eP0 q1 eP1 q2 eP2 q3 eP3 hn2 eN2
  go_upto_region 5 with (go_at_call 94; first | refine (HN2.out _ (Below.refl _ _)).mono ?_; rintro e w2 ⟨rfl, hw⟩; obtain rfl := hw.symm)
  clear bd sv ez hV0 eg z
  have hsrc0 : ∀ j, j < 48 → (V0.drew).cell? (Addr.add ⟨b0, o0, none⟩ j) = some (.int .u8 (m (0 + j))) := fun j hj => by
    obtain ⟨b', o', e', _, _, h'⟩ := bys_at (Q0.out.below (w' := V0.drew) (by rw [EG.out]; exact HV0.out.drew)) (by omega)
    cases e'
    rw [Addr.add_mid]
    exact h' j hj
  have HCP0 := hid (copy_seg V0.drew g 0 48 (sDepositData ⟨fun _ => 0, fun _ => 0, N2, fun _ => 0⟩) (sDepositData ⟨fun q => m (0 + q), fun _ => 0, N2, fun _ => 0⟩) (fun q => m (0 + q)) ⟨b0, o0, none⟩ c0 48 59 RV0.out (by rw [slDepositData]; omega) hsrc0 (by kernel_rfl))
  clear hsrc0
  refine wp_region_noPanic ?_
  refine wp_region_held_drew (S := fun X => Below g w1 X) (by kernel_rfl) (HV0.out.drew) (fun hHeld => ?_)
  refine wpAnyH_take (i := 0) (v := ?v80) rfl (by kernel_rfl) (by kernel_rfl) (by kernel_rfl) (fun _ _ _ h => h) (Or.inl ⟨by rfl, ?hy80⟩) hHeld ?rest80
  case hy80 =>
    intro w hSw
    go_simp
    try with_reducible rfl
  try simp only [Act.put, List.setIfInBounds_toArray, List.set_cons_zero, List.set_cons_succ, Array.toArray_toList, List.getElem_toArray, List.getElem_cons_zero, List.getElem_cons_succ]
  refine wpAnyH_take (i := 1) (v := ?v81) rfl (by kernel_rfl) (by kernel_rfl) (by kernel_rfl) (fun _ _ _ h => h) (Or.inl ⟨by rfl, ?hy81⟩) hHeld ?rest81
  case hy81 =>
    intro w hSw
    go_simp
    try with_reducible rfl
  try simp only [Act.put, List.setIfInBounds_toArray, List.set_cons_zero, List.set_cons_succ, Array.toArray_toList, List.getElem_toArray, List.getElem_cons_zero, List.getElem_cons_succ]
  refine wpAnyH_take (i := 2) (v := ?v82) rfl (by kernel_rfl) (by kernel_rfl) (by kernel_rfl) (fun _ _ _ h => h) (Or.inl ⟨by rfl, ?hy82⟩) hHeld ?rest82
  case hy82 =>
    intro w hSw
    go_simp
    try with_reducible rfl
  try simp only [Act.put, List.setIfInBounds_toArray, List.set_cons_zero, List.set_cons_succ, Array.toArray_toList, List.getElem_toArray, List.getElem_cons_zero, List.getElem_cons_succ]
  refine wpAnyH_take (i := 3) (v := ?v83) rfl (by kernel_rfl) (by kernel_rfl) (by kernel_rfl) (fun _ _ _ h => h) (Or.inl ⟨by rfl, ?hy83⟩) hHeld ?rest83
  case hy83 =>
    intro w hSw
    go_simp
    try with_reducible rfl
  try simp only [Act.put, List.setIfInBounds_toArray, List.set_cons_zero, List.set_cons_succ, Array.toArray_toList, List.getElem_toArray, List.getElem_cons_zero, List.getElem_cons_succ]
  refine wpAnyH_take (i := 4) (v := ?v84) rfl (by kernel_rfl) (by kernel_rfl) (by kernel_rfl) (fun _ _ _ h => h) (Or.inl ⟨by rfl, ?hy84⟩) hHeld ?rest84
  case hy84 =>
    intro w hSw
    have ld := (below_cell hSw (by rw [← EG.out]; exact HGP.out)).trans L0.out
    go_simp
    try with_reducible rfl
  try simp only [Act.put, List.setIfInBounds_toArray, List.set_cons_zero, List.set_cons_succ, Array.toArray_toList, List.getElem_toArray, List.getElem_cons_zero, List.getElem_cons_succ]
  refine wpAnyH_ready (rs := [5]) (by kernel_rfl) (by simp) ?_
  refine AllReadyH.cons rfl (fun K hK => ?_) AllReadyH.nil
  refine step_copy_is (by rfl) _ _ 34 34 (by rfl) _ _ _ _ (by rfl) (by rfl) HCP0.out ?_
  refine hK.out _ _ (below_row HV0.out.drew (Nat.le_refl _) _) (fun hHeld => ?_)
  clear hK K
  try simp only [Act.put, List.setIfInBounds_toArray, List.set_cons_zero, List.set_cons_succ, Array.toArray_toList, List.getElem_toArray, List.getElem_cons_zero, List.getElem_cons_succ]
  refine wpAnyH_done (by kernel_rfl) ?_ _
  refine NoPanic.normal ?_
  obtain ⟨V1, hV1⟩ : ∃ V, (V0.drew).setRow g (cel (sDepositData ⟨fun q => m (0 + q), fun _ => 0, N2, fun _ => 0⟩)) = V := ⟨_, rfl⟩
  have RV1 : Hid (V1.heap[g]? = some (.cells (cel (sDepositData ⟨fun q => m (0 + q), fun _ => 0, N2, fun _ => 0⟩)) 59)) := by rw [← hV1]; exact setRow_at (w := V0.drew) RV0.out
  have HV1 : Hid (Below g w1 V1) := by rw [← hV1]; exact below_row HV0.out.drew (Nat.le_refl _) _
  rw [hV1]
  clear hV1
  go_upto_region 6 with fail
  have hsrc1 : ∀ j, j < 32 → (V1.drew).cell? (Addr.add ⟨b1, o1, none⟩ j) = some (.int .u8 (m (48 + j))) := fun j hj => by
    obtain ⟨b', o', e', _, _, h'⟩ := bys_at (Q1.out.below (w' := V1.drew) (by rw [EG.out]; exact HV1.out.drew)) (by omega)
    cases e'
    rw [Addr.add_mid]
    exact h' j hj
  have HCP1 := hid (copy_seg V1.drew g 48 32 (sDepositData ⟨fun q => m (0 + q), fun _ => 0, N2, fun _ => 0⟩) (sDepositData ⟨fun q => m (0 + q), fun q => m (48 + q), N2, fun _ => 0⟩) (fun q => m (48 + q)) ⟨b1, o1, none⟩ c1 32 59 RV1.out (by rw [slDepositData]; omega) hsrc1 (by kernel_rfl))
  clear hsrc1
  refine wp_region_noPanic ?_
  refine wp_region_held_drew (S := fun X => Below g w1 X) (by kernel_rfl) (HV1.out.drew) (fun hHeld => ?_)
  refine wpAnyH_take (i := 0) (v := ?v85) rfl (by kernel_rfl) (by kernel_rfl) (by kernel_rfl) (fun _ _ _ h => h) (Or.inl ⟨by rfl, ?hy85⟩) hHeld ?rest85
  case hy85 =>
    intro w hSw
    go_simp
    try with_reducible rfl
  try simp only [Act.put, List.setIfInBounds_toArray, List.set_cons_zero, List.set_cons_succ, Array.toArray_toList, List.getElem_toArray, List.getElem_cons_zero, List.getElem_cons_succ]
  refine wpAnyH_take (i := 1) (v := ?v86) rfl (by kernel_rfl) (by kernel_rfl) (by kernel_rfl) (fun _ _ _ h => h) (Or.inl ⟨by rfl, ?hy86⟩) hHeld ?rest86
  case hy86 =>
    intro w hSw
    go_simp
    try with_reducible rfl
  try simp only [Act.put, List.setIfInBounds_toArray, List.set_cons_zero, List.set_cons_succ, Array.toArray_toList, List.getElem_toArray, List.getElem_cons_zero, List.getElem_cons_succ]
  refine wpAnyH_take (i := 2) (v := ?v87) rfl (by kernel_rfl) (by kernel_rfl) (by kernel_rfl) (fun _ _ _ h => h) (Or.inl ⟨by rfl, ?hy87⟩) hHeld ?rest87
  case hy87 =>
    intro w hSw
    go_simp
    try with_reducible rfl
  try simp only [Act.put, List.setIfInBounds_toArray, List.set_cons_zero, List.set_cons_succ, Array.toArray_toList, List.getElem_toArray, List.getElem_cons_zero, List.getElem_cons_succ]
  refine wpAnyH_take (i := 3) (v := ?v88) rfl (by kernel_rfl) (by kernel_rfl) (by kernel_rfl) (fun _ _ _ h => h) (Or.inl ⟨by rfl, ?hy88⟩) hHeld ?rest88
  case hy88 =>
    intro w hSw
    go_simp
    try with_reducible rfl
  try simp only [Act.put, List.setIfInBounds_toArray, List.set_cons_zero, List.set_cons_succ, Array.toArray_toList, List.getElem_toArray, List.getElem_cons_zero, List.getElem_cons_succ]
  refine wpAnyH_take (i := 4) (v := ?v89) rfl (by kernel_rfl) (by kernel_rfl) (by kernel_rfl) (fun _ _ _ h => h) (Or.inl ⟨by rfl, ?hy89⟩) hHeld ?rest89
  case hy89 =>
    intro w hSw
    have ld := (below_cell hSw (by rw [← EG.out]; exact HGP.out)).trans L1.out
    go_simp
    try with_reducible rfl
  try simp only [Act.put, List.setIfInBounds_toArray, List.set_cons_zero, List.set_cons_succ, Array.toArray_toList, List.getElem_toArray, List.getElem_cons_zero, List.getElem_cons_succ]
  refine wpAnyH_ready (rs := [5]) (by kernel_rfl) (by simp) ?_
  refine AllReadyH.cons rfl (fun K hK => ?_) AllReadyH.nil
  refine step_copy_is (by rfl) _ _ 34 34 (by rfl) _ _ _ _ (by rfl) (by rfl) HCP1.out ?_
  refine hK.out _ _ (below_row HV1.out.drew (Nat.le_refl _) _) (fun hHeld => ?_)
  clear hK K
  try simp only [Act.put, List.setIfInBounds_toArray, List.set_cons_zero, List.set_cons_succ, Array.toArray_toList, List.getElem_toArray, List.getElem_cons_zero, List.getElem_cons_succ]
  refine wpAnyH_done (by kernel_rfl) ?_ _
  refine NoPanic.normal ?_
  obtain ⟨V2, hV2⟩ : ∃ V, (V1.drew).setRow g (cel (sDepositData ⟨fun q => m (0 + q), fun q => m (48 + q), N2, fun _ => 0⟩)) = V := ⟨_, rfl⟩
  have RV2 : Hid (V2.heap[g]? = some (.cells (cel (sDepositData ⟨fun q => m (0 + q), fun q => m (48 + q), N2, fun _ => 0⟩)) 59)) := by rw [← hV2]; exact setRow_at (w := V1.drew) RV1.out
  have HV2 : Hid (Below g w1 V2) := by rw [← hV2]; exact below_row HV1.out.drew (Nat.le_refl _) _
  rw [hV2]
  clear hV2
  go_upto_region 7 with fail
  have hsrc3 : ∀ j, j < 96 → (V2.drew).cell? (Addr.add ⟨b3, o3, none⟩ j) = some (.int .u8 (m (88 + j))) := fun j hj => by
    obtain ⟨b', o', e', _, _, h'⟩ := bys_at (Q3.out.below (w' := V2.drew) (by rw [EG.out]; exact HV2.out.drew)) (by omega)
    cases e'
    rw [Addr.add_mid]
    exact h' j hj
  have HCP2 := hid (copy_seg V2.drew g 81 96 (sDepositData ⟨fun q => m (0 + q), fun q => m (48 + q), N2, fun _ => 0⟩) (sDepositData ⟨fun q => m (0 + q), fun q => m (48 + q), N2, fun q => m (88 + q)⟩) (fun q => m (88 + q)) ⟨b3, o3, none⟩ c3 96 59 RV2.out (by rw [slDepositData]; omega) hsrc3 (by kernel_rfl))
  clear hsrc3
  refine wp_region_noPanic ?_
  refine wp_region_held_drew (S := fun X => Below g w1 X) (by kernel_rfl) (HV2.out.drew) (fun hHeld => ?_)
  refine wpAnyH_take (i := 0) (v := ?v90) rfl (by kernel_rfl) (by kernel_rfl) (by kernel_rfl) (fun _ _ _ h => h) (Or.inl ⟨by rfl, ?hy90⟩) hHeld ?rest90
  case hy90 =>
    intro w hSw
    go_simp
    try with_reducible rfl
  try simp only [Act.put, List.setIfInBounds_toArray, List.set_cons_zero, List.set_cons_succ, Array.toArray_toList, List.getElem_toArray, List.getElem_cons_zero, List.getElem_cons_succ]
  refine wpAnyH_take (i := 1) (v := ?v91) rfl (by kernel_rfl) (by kernel_rfl) (by kernel_rfl) (fun _ _ _ h => h) (Or.inl ⟨by rfl, ?hy91⟩) hHeld ?rest91
  case hy91 =>
    intro w hSw
    go_simp
    try with_reducible rfl
  try simp only [Act.put, List.setIfInBounds_toArray, List.set_cons_zero, List.set_cons_succ, Array.toArray_toList, List.getElem_toArray, List.getElem_cons_zero, List.getElem_cons_succ]
  refine wpAnyH_take (i := 2) (v := ?v92) rfl (by kernel_rfl) (by kernel_rfl) (by kernel_rfl) (fun _ _ _ h => h) (Or.inl ⟨by rfl, ?hy92⟩) hHeld ?rest92
  case hy92 =>
    intro w hSw
    go_simp
    try with_reducible rfl
  try simp only [Act.put, List.setIfInBounds_toArray, List.set_cons_zero, List.set_cons_succ, Array.toArray_toList, List.getElem_toArray, List.getElem_cons_zero, List.getElem_cons_succ]
  refine wpAnyH_take (i := 3) (v := ?v93) rfl (by kernel_rfl) (by kernel_rfl) (by kernel_rfl) (fun _ _ _ h => h) (Or.inl ⟨by rfl, ?hy93⟩) hHeld ?rest93
  case hy93 =>
    intro w hSw
    go_simp
    try with_reducible rfl
  try simp only [Act.put, List.setIfInBounds_toArray, List.set_cons_zero, List.set_cons_succ, Array.toArray_toList, List.getElem_toArray, List.getElem_cons_zero, List.getElem_cons_succ]
  refine wpAnyH_take (i := 4) (v := ?v94) rfl (by kernel_rfl) (by kernel_rfl) (by kernel_rfl) (fun _ _ _ h => h) (Or.inl ⟨by rfl, ?hy94⟩) hHeld ?rest94
  case hy94 =>
    intro w hSw
    have ld := (below_cell hSw (by rw [← EG.out]; exact HGP.out)).trans L3.out
    go_simp
    try with_reducible rfl
  try simp only [Act.put, List.setIfInBounds_toArray, List.set_cons_zero, List.set_cons_succ, Array.toArray_toList, List.getElem_toArray, List.getElem_cons_zero, List.getElem_cons_succ]
  refine wpAnyH_ready (rs := [5]) (by kernel_rfl) (by simp) ?_
  refine AllReadyH.cons rfl (fun K hK => ?_) AllReadyH.nil
  refine step_copy_is (by rfl) _ _ 34 34 (by rfl) _ _ _ _ (by rfl) (by rfl) HCP2.out ?_
  refine hK.out _ _ (below_row HV2.out.drew (Nat.le_refl _) _) (fun hHeld => ?_)
  clear hK K
  try simp only [Act.put, List.setIfInBounds_toArray, List.set_cons_zero, List.set_cons_succ, Array.toArray_toList, List.getElem_toArray, List.getElem_cons_zero, List.getElem_cons_succ]
  refine wpAnyH_done (by kernel_rfl) ?_ _
  refine NoPanic.normal ?_
  obtain ⟨V3, hV3⟩ : ∃ V, (V2.drew).setRow g (cel (sDepositData ⟨fun q => m (0 + q), fun q => m (48 + q), N2, fun q => m (88 + q)⟩)) = V := ⟨_, rfl⟩
  have RV3 : Hid (V3.heap[g]? = some (.cells (cel (sDepositData ⟨fun q => m (0 + q), fun q => m (48 + q), N2, fun q => m (88 + q)⟩)) 59)) := by rw [← hV3]; exact setRow_at (w := V2.drew) RV2.out
  have HV3 : Hid (Below g w1 V3) := by rw [← hV3]; exact below_row HV2.out.drew (Nat.le_refl _) _
  rw [hV3]
  clear hV3
  obtain ⟨vv, ev⟩ : ∃ v : VDepositData, ⟨fun q => m (0 + q), fun q => m (48 + q), N2, fun q => m (88 + q)⟩ = v := ⟨_, rfl⟩
  have rv := RV3.out
  rw [ev] at rv
  have rr : V3.heap[y]? = some (.cells (cel (sDepositData oDepositData)) 59) := (HV3.out.block _ (by rw [← EG.out]; exact Nat.lt_of_lt_of_le HY.out HB1.out.size)).trans ((HB1.out.block _ HY.out).trans R2.out)
  have sv := svDepositData_run rr vv
  have lv := lvDepositData_mid (x := vv) rv 0 (take_all _) rfl
  have RR := hid rr
  have EV := hid ev
  clear rr rv ev
  go_wp2
  refine retDepositData _ _ y vv 59 _ rfl rfl rfl rfl (setRow_at RR.out) ⟨?_, ?_⟩
  · rw [← EV.out, ← EN2.out]
    rfl
  have e0 := EY.out
  have e1 := HB2.out.size
  have e2 := HB1.out.size
  have e3 := EG.out
  exact below_row (HB2.out.trans ((HB1.out.mono (by omega)).trans (HV3.out.mono (by omega)))) (by omega) _

end Go.Proofs.YtokbhcgooboocaaDoor
