/-
  What Read answers.
-/

import Derived.Test.YtehpfemlcjcabaaCoA
import Derived.Test.YtehpfemlcjcabaaCoB
namespace Go.Proofs.Ytehpfemlcjcabaa

open Go.RowKit

set_option linter.unusedVariables false

set_option linter.unusedSimpArgs false

attribute [local go_sem ↓] sv24_eq lv24_eq ix22_eq slr_eq bd27_eq bs22_eq sv8_eq mkI_eq ixI_eq ixP_eq bsP_eq bsI_eq lvFork_eq svFork_eq bdFork_eq lvCheckpoint_eq svCheckpoint_eq bdCheckpoint_eq lvValidator_eq svValidator_eq bdValidator_eq lvEth1_eq svEth1_eq bdEth1_eq lvHeader_eq svHeader_eq bdHeader_eq

set_option maxRecDepth 20000 in
set_option maxHeartbeats 2000000 in
theorem readFork_ok (m : Nat → Int) (ao : Option Addr) (cap : Nat) (w : World) (hb : Bys w ao 16 cap m) (hm : ∀ j, 0 ≤ m j ∧ m j < 256) (hlc : 16 ≤ cap) (hcap : cap ≤ 9223372036854775807) :
    Calls Try.prog 39 #[.slice ao 16 cap] w fun e w' => e = .returned (.tuple #[.agg (cel (sFork (pFork m))), .int .i64 0]) ∧ Below w.heap.size w w' := by
  have z := zeroFork
  obtain ⟨W1, hW1⟩ : ∃ W, w.alloc (.cells (cel (sFork oFork)) 28) = W := ⟨_, rfl⟩
  obtain ⟨W2, hW2⟩ : ∃ W, W1.alloc (.cells (vs .i64 3 zFork) 3) = W := ⟨_, rfl⟩
  have hB1 : Below w.heap.size w W1 := by rw [← hW1]; exact (Below.refl _ _).alloc (Nat.le_refl _) _
  have z1 : W1.heap.size = w.heap.size + 1 := by rw [← hW1]; simp
  have z2 : W2.heap.size = w.heap.size + 2 := by rw [← hW2]; simp [z1]
  have hB2 : Below w.heap.size w W2 := by rw [← hW2]; exact hB1.alloc (by omega) _
  have r1 : W1.heap[w.heap.size]? = some (.cells (cel (sFork oFork)) 28) := by rw [← hW1]; exact heap_new rfl
  have r2 : W2.heap[w.heap.size]? = some (.cells (cel (sFork oFork)) 28) := by rw [← hW2]; exact (heap_old (by omega)).trans r1
  have g2 : W2.heap[W1.heap.size]? = some (.cells (vs .i64 3 zFork) 3) := by rw [← hW2]; exact heap_new rfl
  have bsi := bsI_Fork W1
  rw [hW2] at bsi
  have hcut := cut7_ok fixFork m ao cap W1.heap.size W2 (hb.below hB2) hm (by omega) hlc hcap g2 (by omega) zposFork (by omega)
  obtain ⟨y, ey⟩ : ∃ y, w.heap.size = y := ⟨_, rfl⟩
  obtain ⟨y1, ey1⟩ : ∃ y, W1.heap.size = y := ⟨_, rfl⟩
  rw [ey1] at bsi hcut
  have hy : y < W2.heap.size := by omega
  rw [ey] at r2
  have HCUT := hid hcut
  have R2 := hid r2
  have HB2 := hid hB2
  have HY := hid hy
  have EY := hid ey
  clear hcut r2 hB2 hy r1 g2 hB1 z1 z2 hlc hcap hb
  go_enter Try.func39, Try.ntmps39
  go_upto_region 2 with (go_at_call 36; refine HCUT.out.mono ?_; rintro e w1 ⟨gp, o, rfl, hgp, hcu, hb1⟩)
  clear hW1 hW2 ey ey1 bsi
  obtain ⟨b0, o0, c0, l0, q0⟩ := hcu 0 (by omega)
  replace l0 : w1.cell? ⟨gp, o + 0, none⟩ = some (.slice (some ⟨b0, o0, none⟩) 4 c0) := l0
  replace q0 : Bys w1 (some ⟨b0, o0, none⟩) 4 c0 (fun q => m (0 + q)) := q0
  obtain ⟨P0, eP0⟩ : ∃ P, o + 0 = P := ⟨_, rfl⟩
  rw [eP0] at l0
  have ix0 : ∀ X : World, (ixP (.slice (some ⟨gp, o, none⟩) 3 3) (.int .i64 0)).run Try.prog X = .ok (.pointer (some ⟨gp, P0, none⟩)) X := fun X => by rw [← eP0]; exact ixP_run X gp o 3 3 0 (by omega)
  obtain ⟨b1, o1, c1, l1, q1⟩ := hcu 1 (by omega)
  replace l1 : w1.cell? ⟨gp, o + 1, none⟩ = some (.slice (some ⟨b1, o1, none⟩) 4 c1) := l1
  replace q1 : Bys w1 (some ⟨b1, o1, none⟩) 4 c1 (fun q => m (4 + q)) := q1
  obtain ⟨P1, eP1⟩ : ∃ P, o + 1 = P := ⟨_, rfl⟩
  rw [eP1] at l1
  have ix1 : ∀ X : World, (ixP (.slice (some ⟨gp, o, none⟩) 3 3) (.int .i64 1)).run Try.prog X = .ok (.pointer (some ⟨gp, P1, none⟩)) X := fun X => by rw [← eP1]; exact ixP_run X gp o 3 3 1 (by omega)
  obtain ⟨b2, o2, c2, l2, q2⟩ := hcu 2 (by omega)
  replace l2 : w1.cell? ⟨gp, o + 2, none⟩ = some (.slice (some ⟨b2, o2, none⟩) 8 c2) := l2
  replace q2 : Bys w1 (some ⟨b2, o2, none⟩) 8 c2 (fun q => m (8 + q)) := q2
  obtain ⟨P2, eP2⟩ : ∃ P, o + 2 = P := ⟨_, rfl⟩
  rw [eP2] at l2
  have ix2 : ∀ X : World, (ixP (.slice (some ⟨gp, o, none⟩) 3 3) (.int .i64 2)).run Try.prog X = .ok (.pointer (some ⟨gp, P2, none⟩)) X := fun X => by rw [← eP2]; exact ixP_run X gp o 3 3 2 (by omega)
  obtain ⟨N2, eN2⟩ : ∃ N, rdN (fun q => m (8 + q)) = N := ⟨_, rfl⟩
  have hn2 : ∀ X, Below w1.heap.size w1 X → Calls Try.prog 78 #[.slice (some ⟨b2, o2, none⟩) 8 c2] X fun e w' => e = .returned (.int .u64 N2) ∧ w' = X := fun X h => by
    rw [← eN2]
    exact rnum7 (some ⟨b2, o2, none⟩) c2 (fun q => m (8 + q)) X (q2.below h) (fun j _ => hm _)
  have HN2 := hid hn2
  have bd : ∀ X : World, (bdFork #[(2, .int .u64 N2)]).run Try.prog X = .ok (.agg (cel (sFork ⟨fun _ => 0, fun _ => 0, N2⟩))) X := fun X => by kernel_rfl
  have sv := svFork_newv w1 oFork ⟨fun _ => 0, fun _ => 0, N2⟩
  obtain ⟨g, eg⟩ : ∃ g, w1.heap.size = g := ⟨_, rfl⟩
  obtain ⟨V0, hV0⟩ : ∃ V, w1.alloc (.cells (cel (sFork ⟨fun _ => 0, fun _ => 0, N2⟩)) 28) = V := ⟨_, rfl⟩
  have hB0 : Below g w1 V0 := by rw [← hV0, ← eg]; exact (Below.refl _ _).alloc (Nat.le_refl _) _
  have rV0 : V0.heap[g]? = some (.cells (cel (sFork ⟨fun _ => 0, fun _ => 0, N2⟩)) 28) := by rw [← hV0]; exact heap_new eg.symm
  rw [hV0, eg] at sv
  have ez := z w1
  have EG := hid eg
  have EN2 := hid eN2
  have Q0 := hid q0
  have L0 := hid l0
  have Q1 := hid q1
  have L1 := hid l1
  have Q2 := hid q2
  have L2 := hid l2
  have RV0 := hid rV0
  have HV0 := hid hB0
  have HB1 := hid hb1
  have HGP := hid hgp
  clear rV0 hB0 hb1 hgp hcu q0 eP0 q1 eP1 q2 eP2 hn2 eN2
  go_upto_region 5 with (go_at_call 78; first | refine (HN2.out _ (Below.refl _ _)).mono ?_; rintro e w2 ⟨rfl, hw⟩; obtain rfl := hw.symm)
  clear bd sv ez hV0 eg z
  have hsrc0 : ∀ j, j < 4 → (V0.drew).cell? (Addr.add ⟨b0, o0, none⟩ j) = some (.int .u8 (m (0 + j))) := fun j hj => by
    obtain ⟨b', o', e', _, _, h'⟩ := bys_at (Q0.out.below (w' := V0.drew) (by rw [EG.out]; exact HV0.out.drew)) (by omega)
    cases e'
    rw [Addr.add_mid]
    exact h' j hj
  have HCP0 := hid (copy_seg V0.drew g 0 4 (sFork ⟨fun _ => 0, fun _ => 0, N2⟩) (sFork ⟨fun q => m (0 + q), fun _ => 0, N2⟩) (fun q => m (0 + q)) ⟨b0, o0, none⟩ c0 4 28 RV0.out (by rw [slFork]; omega) hsrc0 (by kernel_rfl))
  clear hsrc0
  refine wp_region_noPanic ?_
  refine wp_region_held_drew (S := fun X => Below g w1 X) (by kernel_rfl) (HV0.out.drew) (fun hHeld => ?_)
  refine tk 0 (v := ?v1) ?y1 hHeld ?r1
  case y1 => intro w hSw; go_simp; try with_reducible rfl
  refine tk 1 (v := ?v2) ?y2 hHeld ?r2
  case y2 => intro w hSw; go_simp; try with_reducible rfl
  refine tk 2 (v := ?v3) ?y3 hHeld ?r3
  case y3 => intro w hSw; go_simp; try with_reducible rfl
  refine tk 3 (v := ?v4) ?y4 hHeld ?r4
  case y4 => intro w hSw; go_simp; try with_reducible rfl
  refine tk 4 (v := ?v5) ?y5 hHeld ?r5
  case y5 => intro w hSw; have ld := (below_cell hSw (by rw [← EG.out]; exact HGP.out)).trans L0.out; go_simp; try with_reducible rfl
  try simp only [Act.put, List.setIfInBounds_toArray, List.set_cons_zero, List.set_cons_succ, Array.toArray_toList, List.getElem_toArray, List.getElem_cons_zero, List.getElem_cons_succ]
  refine wpAnyH_ready (rs := [5]) (by kernel_rfl) (by simp) ?_
  refine AllReadyH.cons rfl (fun K hK => ?_) AllReadyH.nil
  refine step_copy_is (by rfl) _ _ 39 39 (by rfl) _ _ _ _ (by rfl) (by rfl) HCP0.out ?_
  refine hK.out _ _ (below_row HV0.out.drew (Nat.le_refl _) _) (fun hHeld => ?_)
  clear hK K
  try simp only [Act.put, List.setIfInBounds_toArray, List.set_cons_zero, List.set_cons_succ, Array.toArray_toList, List.getElem_toArray, List.getElem_cons_zero, List.getElem_cons_succ]
  refine wpAnyH_done (by kernel_rfl) ?_ _
  refine NoPanic.normal ?_
  obtain ⟨V1, hV1⟩ : ∃ V, (V0.drew).setRow g (cel (sFork ⟨fun q => m (0 + q), fun _ => 0, N2⟩)) = V := ⟨_, rfl⟩
  have RV1 : Hid (V1.heap[g]? = some (.cells (cel (sFork ⟨fun q => m (0 + q), fun _ => 0, N2⟩)) 28)) := by rw [← hV1]; exact setRow_at (w := V0.drew) RV0.out
  have HV1 : Hid (Below g w1 V1) := by rw [← hV1]; exact below_row HV0.out.drew (Nat.le_refl _) _
  rw [hV1]
  clear hV1
  go_upto_region 6 with fail
  have hsrc1 : ∀ j, j < 4 → (V1.drew).cell? (Addr.add ⟨b1, o1, none⟩ j) = some (.int .u8 (m (4 + j))) := fun j hj => by
    obtain ⟨b', o', e', _, _, h'⟩ := bys_at (Q1.out.below (w' := V1.drew) (by rw [EG.out]; exact HV1.out.drew)) (by omega)
    cases e'
    rw [Addr.add_mid]
    exact h' j hj
  have HCP1 := hid (copy_seg V1.drew g 4 4 (sFork ⟨fun q => m (0 + q), fun _ => 0, N2⟩) (sFork ⟨fun q => m (0 + q), fun q => m (4 + q), N2⟩) (fun q => m (4 + q)) ⟨b1, o1, none⟩ c1 4 28 RV1.out (by rw [slFork]; omega) hsrc1 (by kernel_rfl))
  clear hsrc1
  refine wp_region_noPanic ?_
  refine wp_region_held_drew (S := fun X => Below g w1 X) (by kernel_rfl) (HV1.out.drew) (fun hHeld => ?_)
  refine tk 0 (v := ?v6) ?y6 hHeld ?r6
  case y6 => intro w hSw; go_simp; try with_reducible rfl
  refine tk 1 (v := ?v7) ?y7 hHeld ?r7
  case y7 => intro w hSw; go_simp; try with_reducible rfl
  refine tk 2 (v := ?v8) ?y8 hHeld ?r8
  case y8 => intro w hSw; go_simp; try with_reducible rfl
  refine tk 3 (v := ?v9) ?y9 hHeld ?r9
  case y9 => intro w hSw; go_simp; try with_reducible rfl
  refine tk 4 (v := ?v10) ?y10 hHeld ?r10
  case y10 => intro w hSw; have ld := (below_cell hSw (by rw [← EG.out]; exact HGP.out)).trans L1.out; go_simp; try with_reducible rfl
  try simp only [Act.put, List.setIfInBounds_toArray, List.set_cons_zero, List.set_cons_succ, Array.toArray_toList, List.getElem_toArray, List.getElem_cons_zero, List.getElem_cons_succ]
  refine wpAnyH_ready (rs := [5]) (by kernel_rfl) (by simp) ?_
  refine AllReadyH.cons rfl (fun K hK => ?_) AllReadyH.nil
  refine step_copy_is (by rfl) _ _ 39 39 (by rfl) _ _ _ _ (by rfl) (by rfl) HCP1.out ?_
  refine hK.out _ _ (below_row HV1.out.drew (Nat.le_refl _) _) (fun hHeld => ?_)
  clear hK K
  try simp only [Act.put, List.setIfInBounds_toArray, List.set_cons_zero, List.set_cons_succ, Array.toArray_toList, List.getElem_toArray, List.getElem_cons_zero, List.getElem_cons_succ]
  refine wpAnyH_done (by kernel_rfl) ?_ _
  refine NoPanic.normal ?_
  obtain ⟨V2, hV2⟩ : ∃ V, (V1.drew).setRow g (cel (sFork ⟨fun q => m (0 + q), fun q => m (4 + q), N2⟩)) = V := ⟨_, rfl⟩
  have RV2 : Hid (V2.heap[g]? = some (.cells (cel (sFork ⟨fun q => m (0 + q), fun q => m (4 + q), N2⟩)) 28)) := by rw [← hV2]; exact setRow_at (w := V1.drew) RV1.out
  have HV2 : Hid (Below g w1 V2) := by rw [← hV2]; exact below_row HV1.out.drew (Nat.le_refl _) _
  rw [hV2]
  clear hV2
  obtain ⟨vv, ev⟩ : ∃ v : VFork, ⟨fun q => m (0 + q), fun q => m (4 + q), N2⟩ = v := ⟨_, rfl⟩
  have rv := RV2.out
  rw [ev] at rv
  have rr : V2.heap[y]? = some (.cells (cel (sFork oFork)) 28) := (HV2.out.block _ (by rw [← EG.out]; exact Nat.lt_of_lt_of_le HY.out HB1.out.size)).trans ((HB1.out.block _ HY.out).trans R2.out)
  have sv := svFork_run rr vv
  have lv := lvFork_mid (x := vv) rv 0 (take_all _) rfl
  have RR := hid rr
  have EV := hid ev
  clear rr rv ev
  go_wp2
  refine retFork _ _ y vv 28 _ rfl rfl rfl rfl (setRow_at RR.out) ⟨?_, ?_⟩
  · rw [← EV.out, ← EN2.out]
    rfl
  have e0 := EY.out
  have e1 := HB2.out.size
  have e2 := HB1.out.size
  have e3 := EG.out
  exact below_row (HB2.out.trans ((HB1.out.mono (by omega)).trans (HV2.out.mono (by omega)))) (by omega) _

end Go.Proofs.Ytehpfemlcjcabaa
