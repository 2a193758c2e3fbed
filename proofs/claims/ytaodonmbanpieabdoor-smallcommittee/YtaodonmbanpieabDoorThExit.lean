/-
  What Read answers.
-/
import Derived.Test.YtaodonmbanpieabDoorCoA
import Derived.Test.YtaodonmbanpieabDoorCoB
import Derived.Test.YtaodonmbanpieabDoorCoC
namespace Go.Proofs.YtaodonmbanpieabDoor
open Go.RowKit
set_option linter.unusedVariables false
set_option linter.unusedSimpArgs false

attribute [local go_sem ↓] sv24_eq lv24_eq ix22_eq slr_eq bd27_eq bs22_eq sv8_eq mkI_eq ixI_eq ixP_eq bsP_eq bsI_eq lvFork_eq svFork_eq bdFork_eq lvValidator_eq svValidator_eq bdValidator_eq lvHeader_eq svHeader_eq bdHeader_eq lvExit_eq svExit_eq bdExit_eq lvDepositData_eq svDepositData_eq bdDepositData_eq lvSignedHeader_eq svSignedHeader_eq bdSignedHeader_eq lvSignedExit_eq svSignedExit_eq bdSignedExit_eq

set_option maxRecDepth 20000 in
set_option maxHeartbeats 2000000 in
theorem readExit_no (m : Nat → Int) (ao : Option Addr) (len cap : Nat) (w : World) (hb : Bys w ao len cap m) (hm : ∀ j, 0 ≤ m j ∧ m j < 256) (hlc : len ≤ cap) (hcap : cap ≤ 9223372036854775807) (hlen : len ≤ 140737488351232) (hN : ¬ len = 16) :
    Calls Tryd.prog 26 #[.slice ao len cap] w fun e w' => e = .returned (.tuple #[.agg (cel (sExit oExit)), .int .i64 4]) ∧ Below w.heap.size w w' := by
  have z := zeroExit
  obtain ⟨W1, hW1⟩ : ∃ W, w.alloc (.cells (cel (sExit oExit)) 55) = W := ⟨_, rfl⟩
  obtain ⟨W2, hW2⟩ : ∃ W, W1.alloc (.cells (vs .i64 2 zExit) 3) = W := ⟨_, rfl⟩
  have hB1 : Below w.heap.size w W1 := by rw [← hW1]; exact (Below.refl _ _).alloc (Nat.le_refl _) _
  have z1 : W1.heap.size = w.heap.size + 1 := by rw [← hW1]; simp
  have z2 : W2.heap.size = w.heap.size + 2 := by rw [← hW2]; simp [z1]
  have hB2 : Below w.heap.size w W2 := by rw [← hW2]; exact hB1.alloc (by omega) _
  have r1 : W1.heap[w.heap.size]? = some (.cells (cel (sExit oExit)) 55) := by rw [← hW1]; exact heap_new rfl
  have r2 : W2.heap[w.heap.size]? = some (.cells (cel (sExit oExit)) 55) := by rw [← hW2]; exact (heap_old (by omega)).trans r1
  have g2 : W2.heap[W1.heap.size]? = some (.cells (vs .i64 2 zExit) 3) := by rw [← hW2]; exact heap_new rfl
  have bsi := bsI_Exit W1
  rw [hW2] at bsi
  have hcut := cut7_no fixExit m ao len cap W1.heap.size W2 (hb.below hB2) hm hlen hlc hcap g2 (by omega) hN
  obtain ⟨y, ey⟩ : ∃ y, w.heap.size = y := ⟨_, rfl⟩
  obtain ⟨y1, ey1⟩ : ∃ y, W1.heap.size = y := ⟨_, rfl⟩
  rw [ey1] at bsi hcut
  have hy : y < W2.heap.size := by omega
  rw [ey] at r2
  have HCUT := hid hcut
  have R2 := hid r2
  have HB2 := hid hB2
  have HY := hid hy
  have EY := hid ey
  clear hcut r2 hB2 hy r1 g2 hB1 z1 z2 hlc hcap hb hlen hN
  go_enter Tryd.func26, Tryd.ntmps26
  go_upto_region 2 with (go_at_call 58; refine HCUT.out.mono ?_; rintro e w1 ⟨a1, rfl, hb1⟩)
  clear hW1 hW2 ey ey1 bsi
  have rr := (hb1.block _ HY.out).trans R2.out
  have sv := svExit_run rr oExit
  have bd := bdExit_0
  have RR := hid rr
  have HB1 := hid hb1
  clear rr hb1
  go_wp2
  refine retExit _ _ y oExit 55 _ rfl rfl rfl rfl (setRow_at RR.out) ⟨rfl, ?_⟩
  have e0 := EY.out
  have e1 := HB2.out.size
  exact below_row (HB2.out.trans (HB1.out.mono (by omega))) (by omega) _

end Go.Proofs.YtaodonmbanpieabDoor
namespace Go.Proofs.YtaodonmbanpieabDoor
open Go.RowKit
set_option linter.unusedVariables false
set_option linter.unusedSimpArgs false

attribute [local go_sem ↓] sv24_eq lv24_eq ix22_eq slr_eq bd27_eq bs22_eq sv8_eq mkI_eq ixI_eq ixP_eq bsP_eq bsI_eq lvExit_eq svExit_eq bdExit_eq bdValidator_eq bdFork_eq

set_option maxRecDepth 20000 in
set_option maxHeartbeats 2000000 in
theorem readExit_ok (m : Nat → Int) (ao : Option Addr) (cap : Nat) (w : World) (hb : Bys w ao 16 cap m) (hm : ∀ j, 0 ≤ m j ∧ m j < 256) (hlc : 16 ≤ cap) (hcap : cap ≤ 9223372036854775807) :
    Calls Tryd.prog 26 #[.slice ao 16 cap] w fun e w' => e = .returned (.tuple #[.agg (cel (sExit (pExit m))), .int .i64 0]) ∧ Below w.heap.size w w' := by
  have z := zeroExit
  obtain ⟨W1, hW1⟩ : ∃ W, w.alloc (.cells (cel (sExit oExit)) 55) = W := ⟨_, rfl⟩
  obtain ⟨W2, hW2⟩ : ∃ W, W1.alloc (.cells (vs .i64 2 zExit) 3) = W := ⟨_, rfl⟩
  have hB1 : Below w.heap.size w W1 := by rw [← hW1]; exact (Below.refl _ _).alloc (Nat.le_refl _) _
  have z1 : W1.heap.size = w.heap.size + 1 := by rw [← hW1]; simp
  have z2 : W2.heap.size = w.heap.size + 2 := by rw [← hW2]; simp [z1]
  have hB2 : Below w.heap.size w W2 := by rw [← hW2]; exact hB1.alloc (by omega) _
  have r1 : W1.heap[w.heap.size]? = some (.cells (cel (sExit oExit)) 55) := by rw [← hW1]; exact heap_new rfl
  have r2 : W2.heap[w.heap.size]? = some (.cells (cel (sExit oExit)) 55) := by rw [← hW2]; exact (heap_old (by omega)).trans r1
  have g2 : W2.heap[W1.heap.size]? = some (.cells (vs .i64 2 zExit) 3) := by rw [← hW2]; exact heap_new rfl
  have bsi := bsI_Exit W1
  rw [hW2] at bsi
  have hcut := cut7_ok fixExit m ao cap W1.heap.size W2 (hb.below hB2) hm (by omega) hlc hcap g2 (by omega) zposExit (by omega)
  obtain ⟨y, ey⟩ : ∃ y, w.heap.size = y := ⟨_, rfl⟩
  obtain ⟨y1, ey1⟩ : ∃ y, W1.heap.size = y := ⟨_, rfl⟩
  rw [ey1] at bsi hcut
  have hy : y < W2.heap.size := by omega
  rw [ey] at r2
  have HCUT := hid hcut
  have R2 := hid r2
  have HB2 := hid hB2
  have HY := hid hy
  have EY := hid ey
  clear hcut r2 hB2 hy r1 g2 hB1 z1 z2 hlc hcap hb
  go_enter Tryd.func26, Tryd.ntmps26
  go_upto_region 2 with (go_at_call 58; refine HCUT.out.mono ?_; rintro e w1 ⟨gp, o, rfl, hgp, hcu, hb1⟩)
  clear hW1 hW2 ey ey1 bsi
  have ry : w1.heap[y]? = some (.cells (cel (sExit oExit)) 55) := (hb1.block _ HY.out).trans R2.out
  obtain ⟨b0, o0, c0, l0, q0⟩ := hcu 0 (by omega)
  replace l0 : w1.cell? ⟨gp, o + 0, none⟩ = some (.slice (some ⟨b0, o0, none⟩) 8 c0) := l0
  replace q0 : Bys w1 (some ⟨b0, o0, none⟩) 8 c0 (fun q => m (0 + q)) := q0
  obtain ⟨P0, eP0⟩ : ∃ P, o + 0 = P := ⟨_, rfl⟩
  rw [eP0] at l0
  have ix0 : ∀ X : World, (ixP (.slice (some ⟨gp, o, none⟩) 2 2) (.int .i64 0)).run Tryd.prog X = .ok (.pointer (some ⟨gp, P0, none⟩)) X := fun X => by rw [← eP0]; exact ixP_run X gp o 2 2 0 (by omega)
  have hne : gp ≠ y := cel_no ry l0
  have HL0 : Hid (∀ X, Kept y w1 X → X.cell? ⟨gp, P0, none⟩ = some (.slice (some ⟨b0, o0, none⟩) 8 c0)) := fun X h => (h.cell hgp hne).trans l0
  clear hne
  obtain ⟨N0, eN0⟩ : ∃ N, rdN (fun q => m (0 + q)) = N := ⟨_, rfl⟩
  have HN0 : Hid (Calls Tryd.prog 66 #[.slice (some ⟨b0, o0, none⟩) 8 c0] w1.drew fun e w' => e = .returned (.int .u64 N0) ∧ w' = w1.drew) := by
    show Calls Tryd.prog 66 _ _ _
    rw [← eN0]
    exact rnum7 (some ⟨b0, o0, none⟩) c0 (fun q => m (0 + q)) w1.drew (q0.below (Below.refl _ _).drew) (fun j _ => hm _)
  have EN0 := hid eN0
  clear eN0
  obtain ⟨b1, o1, c1, l1, q1⟩ := hcu 1 (by omega)
  replace l1 : w1.cell? ⟨gp, o + 1, none⟩ = some (.slice (some ⟨b1, o1, none⟩) 8 c1) := l1
  replace q1 : Bys w1 (some ⟨b1, o1, none⟩) 8 c1 (fun q => m (8 + q)) := q1
  obtain ⟨P1, eP1⟩ : ∃ P, o + 1 = P := ⟨_, rfl⟩
  rw [eP1] at l1
  have ix1 : ∀ X : World, (ixP (.slice (some ⟨gp, o, none⟩) 2 2) (.int .i64 1)).run Tryd.prog X = .ok (.pointer (some ⟨gp, P1, none⟩)) X := fun X => by rw [← eP1]; exact ixP_run X gp o 2 2 1 (by omega)
  have hne : gp ≠ y := cel_no ry l1
  have HL1 : Hid (∀ X, Kept y w1 X → X.cell? ⟨gp, P1, none⟩ = some (.slice (some ⟨b1, o1, none⟩) 8 c1)) := fun X h => (h.cell hgp hne).trans l1
  clear hne
  obtain ⟨N1, eN1⟩ : ∃ N, rdN (fun q => m (8 + q)) = N := ⟨_, rfl⟩
  have HN1 : Hid (Calls Tryd.prog 66 #[.slice (some ⟨b1, o1, none⟩) 8 c1] w1.drew fun e w' => e = .returned (.int .u64 N1) ∧ w' = w1.drew) := by
    show Calls Tryd.prog 66 _ _ _
    rw [← eN1]
    exact rnum7 (some ⟨b1, o1, none⟩) c1 (fun q => m (8 + q)) w1.drew (q1.below (Below.refl _ _).drew) (fun j _ => hm _)
  have EN1 := hid eN1
  clear eN1
  have bd : ∀ X : World, (bdExit #[(0, .int .u64 N0), (1, .int .u64 N1)]).run Tryd.prog X = .ok (.agg (cel (sExit ⟨N0, N1⟩))) X := fun X => by kernel_rfl
  have sv := svExit_run (w := w1.drew) ry ⟨N0, N1⟩
  have RY := hid (show w1.drew.heap[y]? = some (.cells (cel (sExit oExit)) 55) from ry)
  have HB1 := hid hb1
  have HK := hid (Kept.refl y w1).drew
  clear ry hb1 hgp hcu z l0 l1 q0 q1 eP0 eP1
  go_upto_region 4 with fail
  refine wp_region_noPanic ?_
  refine wp_region_held_drew (S := fun X => Kept y w1 X) (by kernel_rfl) (HK.out) (fun hHeld => ?_)
  refine wpAnyH_take (i := 0) (v := ?v1) rfl (by kernel_rfl) (by kernel_rfl) (by kernel_rfl) (fun _ _ _ h => h) (Or.inl ⟨by rfl, ?hy1⟩) hHeld ?rest1
  case hy1 =>
    intro w hSw
    go_simp
    try with_reducible rfl
  try simp only [Act.put, List.setIfInBounds_toArray, List.set_cons_zero, List.set_cons_succ, Array.toArray_toList, List.getElem_toArray, List.getElem_cons_zero, List.getElem_cons_succ]
  refine wpAnyH_take (i := 1) (v := ?v2) rfl (by kernel_rfl) (by kernel_rfl) (by kernel_rfl) (fun _ _ _ h => h) (Or.inl ⟨by rfl, ?hy2⟩) hHeld ?rest2
  case hy2 =>
    intro w hSw
    go_simp
    try with_reducible rfl
  try simp only [Act.put, List.setIfInBounds_toArray, List.set_cons_zero, List.set_cons_succ, Array.toArray_toList, List.getElem_toArray, List.getElem_cons_zero, List.getElem_cons_succ]
  refine wpAnyH_take (i := 2) (v := ?v3) rfl (by kernel_rfl) (by kernel_rfl) (by kernel_rfl) (fun _ _ _ h => h) (Or.inl ⟨by rfl, ?hy3⟩) hHeld ?rest3
  case hy3 =>
    intro w hSw
    have ld := HL0.out _ hSw
    go_simp
    try with_reducible rfl
  try simp only [Act.put, List.setIfInBounds_toArray, List.set_cons_zero, List.set_cons_succ, Array.toArray_toList, List.getElem_toArray, List.getElem_cons_zero, List.getElem_cons_succ]
  refine wpAnyH_take (i := 4) (v := ?v4) rfl (by kernel_rfl) (by kernel_rfl) (by kernel_rfl) (fun _ _ _ h => h) (Or.inl ⟨by rfl, ?hy4⟩) hHeld ?rest4
  case hy4 =>
    intro w hSw
    go_simp
    try with_reducible rfl
  try simp only [Act.put, List.setIfInBounds_toArray, List.set_cons_zero, List.set_cons_succ, Array.toArray_toList, List.getElem_toArray, List.getElem_cons_zero, List.getElem_cons_succ]
  refine wpAnyH_take (i := 5) (v := ?v5) rfl (by kernel_rfl) (by kernel_rfl) (by kernel_rfl) (fun _ _ _ h => h) (Or.inl ⟨by rfl, ?hy5⟩) hHeld ?rest5
  case hy5 =>
    intro w hSw
    go_simp
    try with_reducible rfl
  try simp only [Act.put, List.setIfInBounds_toArray, List.set_cons_zero, List.set_cons_succ, Array.toArray_toList, List.getElem_toArray, List.getElem_cons_zero, List.getElem_cons_succ]
  refine wpAnyH_take (i := 6) (v := ?v6) rfl (by kernel_rfl) (by kernel_rfl) (by kernel_rfl) (fun _ _ _ h => h) (Or.inl ⟨by rfl, ?hy6⟩) hHeld ?rest6
  case hy6 =>
    intro w hSw
    have ld := HL1.out _ hSw
    go_simp
    try with_reducible rfl
  try simp only [Act.put, List.setIfInBounds_toArray, List.set_cons_zero, List.set_cons_succ, Array.toArray_toList, List.getElem_toArray, List.getElem_cons_zero, List.getElem_cons_succ]
  refine wpAnyH_ready (rs := [3]) (by kernel_rfl) (by simp) ?_
  refine AllReadyH.cons rfl (fun K hK => ?_) AllReadyH.nil
  go_simp
  refine (HN0.out).mono ?_
  rintro e w2 ⟨rfl, hw⟩
  dsimp only
  obtain rfl := hw
  refine hK.out _ _ (HK.out) (fun hHeld => ?_)
  clear hK K
  try simp only [Act.put, List.setIfInBounds_toArray, List.set_cons_zero, List.set_cons_succ, Array.toArray_toList, List.getElem_toArray, List.getElem_cons_zero, List.getElem_cons_succ]
  refine wpAnyH_ready (rs := [7]) (by kernel_rfl) (by simp) ?_
  refine AllReadyH.cons rfl (fun K hK => ?_) AllReadyH.nil
  go_simp
  refine (HN1.out).mono ?_
  rintro e w2 ⟨rfl, hw⟩
  dsimp only
  obtain rfl := hw
  refine hK.out _ _ (HK.out) (fun hHeld => ?_)
  clear hK K
  try simp only [Act.put, List.setIfInBounds_toArray, List.set_cons_zero, List.set_cons_succ, Array.toArray_toList, List.getElem_toArray, List.getElem_cons_zero, List.getElem_cons_succ]
  refine wpAnyH_take (i := 8) (v := ?v7) rfl (by kernel_rfl) (by kernel_rfl) (by kernel_rfl) (fun _ _ _ h => h) (Or.inl ⟨by rfl, ?hy7⟩) hHeld ?rest7
  case hy7 =>
    intro w hSw
    go_simp
    try with_reducible rfl
  try simp only [Act.put, List.setIfInBounds_toArray, List.set_cons_zero, List.set_cons_succ, Array.toArray_toList, List.getElem_toArray, List.getElem_cons_zero, List.getElem_cons_succ]
  refine wpAnyH_ready (rs := [9]) (by kernel_rfl) (by simp) ?_
  refine AllReadyH.cons rfl (fun K hK => ?_) AllReadyH.nil
  go_simp
  refine hK.out _ _ (HK.out.setRow _) (fun hHeld => ?_)
  clear hK K sv
  try simp only [Act.put, List.setIfInBounds_toArray, List.set_cons_zero, List.set_cons_succ, Array.toArray_toList, List.getElem_toArray, List.getElem_cons_zero, List.getElem_cons_succ]
  refine wpAnyH_take (i := 10) (v := ?v8) rfl (by kernel_rfl) (by kernel_rfl) (by kernel_rfl) (fun _ _ _ h => h) (Or.inl ⟨by rfl, ?hy8⟩) hHeld ?rest8
  case hy8 =>
    intro w hSw
    go_simp
    try with_reducible rfl
  try simp only [Act.put, List.setIfInBounds_toArray, List.set_cons_zero, List.set_cons_succ, Array.toArray_toList, List.getElem_toArray, List.getElem_cons_zero, List.getElem_cons_succ]
  refine wpAnyH_done (by kernel_rfl) ?_ _
  refine NoPanic.normal ?_
  go_wp2
  refine retExit _ _ y ⟨N0, N1⟩ 55 _ rfl rfl rfl rfl (setRow_at RY.out) ⟨?_, ?_⟩
  · rw [← EN0.out, ← EN1.out]
    rfl
  have e0 := EY.out
  have e1 := HB2.out.size
  have e2 := HB1.out.size
  exact below_row (HB2.out.trans (HB1.out.mono (by omega))).drew (by omega) _

end Go.Proofs.YtaodonmbanpieabDoor
