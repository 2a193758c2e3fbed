/-
  What Read answers.
  What Read answers.
  What Read answers.
  What Read answers.
-/
import Derived.Test.YtehpfemlcjcabaaCoA
import Derived.Test.YtehpfemlcjcabaaCoB
namespace Go.Proofs.Ytehpfemlcjcabaa

open Go.RowKit

set_option linter.unusedVariables false

set_option linter.unusedSimpArgs false

attribute [local go_sem ↓] sv24_eq lv24_eq ix22_eq slr_eq bd27_eq bs22_eq sv8_eq mkI_eq ixI_eq ixP_eq bsP_eq bsI_eq lvFork_eq svFork_eq bdFork_eq lvCheckpoint_eq svCheckpoint_eq bdCheckpoint_eq lvValidator_eq svValidator_eq bdValidator_eq lvEth1_eq svEth1_eq bdEth1_eq lvHeader_eq svHeader_eq bdHeader_eq

set_option maxRecDepth 20000 in
set_option maxHeartbeats 2000000 in
theorem readFork_ok (m : Nat → Int) (ao : Option Addr) (cap : Nat) (w : World) (hb : Bys w ao 16 cap m) (hm : ∀ j, 0 ≤ m j ∧ m j < 256) (hlc : 16 ≤ cap) (hcap : cap ≤ 9223372036854775807) :
    Calls Try.prog 39 #[.slice ao 16 cap] w fun e w' => e = .returned (.tuple #[.agg (cel (sFork (pFork m))), .int .i64 0]) ∧ Below w.heap.size w w' := by
  have z := zeroFork
  obtain ⟨W1, hW1⟩ : ∃ W, w.alloc (.cells (cel (sFork oFork)) 28) = W := ⟨_, rfl⟩
  obtain ⟨W2, hW2⟩ : ∃ W, W1.alloc (.cells (vs .i64 3 zFork) 3) = W := ⟨_, rfl⟩
  have hB1 : Below w.heap.size w W1 := by rw [← hW1]; exact (Below.refl _ _).alloc (Nat.le_refl _) _
  have z1 : W1.heap.size = w.heap.size + 1 := by rw [← hW1]; simp
  have z2 : W2.heap.size = w.heap.size + 2 := by rw [← hW2]; simp [z1]
  have hB2 : Below w.heap.size w W2 := by rw [← hW2]; exact hB1.alloc (by omega) _
  have r1 : W1.heap[w.heap.size]? = some (.cells (cel (sFork oFork)) 28) := by rw [← hW1]; exact heap_new rfl
  have r2 : W2.heap[w.heap.size]? = some (.cells (cel (sFork oFork)) 28) := by rw [← hW2]; exact (heap_old (by omega)).trans r1
  have g2 : W2.heap[W1.heap.size]? = some (.cells (vs .i64 3 zFork) 3) := by rw [← hW2]; exact heap_new rfl
  have bsi := bsI_Fork W1
  rw [hW2] at bsi
  have hcut := cut7_ok fixFork m ao cap W1.heap.size W2 (hb.below hB2) hm (by omega) hlc hcap g2 (by omega) zposFork (by omega)
  obtain ⟨y, ey⟩ : ∃ y, w.heap.size = y := ⟨_, rfl⟩
  obtain ⟨y1, ey1⟩ : ∃ y, W1.heap.size = y := ⟨_, rfl⟩
  rw [ey1] at bsi hcut
  have hy : y < W2.heap.size := by omega
  rw [ey] at r2
  have HCUT := hid hcut
  have R2 := hid r2
  have HB2 := hid hB2
  have HY := hid hy
  have EY := hid ey
  clear hcut r2 hB2 hy r1 g2 hB1 z1 z2 hlc hcap hb
  go_enter Try.func39, Try.ntmps39
  go_upto_region 2 with (go_at_call 36; refine HCUT.out.mono ?_; rintro e w1 ⟨gp, o, rfl, hgp, hcu, hb1⟩)
  clear hW1 hW2 ey ey1 bsi
  obtain ⟨b0, o0, c0, l0, q0⟩ := hcu 0 (by omega)
  replace l0 : w1.cell? ⟨gp, o + 0, none⟩ = some (.slice (some ⟨b0, o0, none⟩) 4 c0) := l0
  replace q0 : Bys w1 (some ⟨b0, o0, none⟩) 4 c0 (fun q => m (0 + q)) := q0
  obtain ⟨P0, eP0⟩ : ∃ P, o + 0 = P := ⟨_, rfl⟩
  rw [eP0] at l0
  have ix0 : ∀ X : World, (ixP (.slice (some ⟨gp, o, none⟩) 3 3) (.int .i64 0)).run Try.prog X = .ok (.pointer (some ⟨gp, P0, none⟩)) X := fun X => by rw [← eP0]; exact ixP_run X gp o 3 3 0 (by omega)
  obtain ⟨b1, o1, c1, l1, q1⟩ := hcu 1 (by omega)
  replace l1 : w1.cell? ⟨gp, o + 1, none⟩ = some (.slice (some ⟨b1, o1, none⟩) 4 c1) := l1
  replace q1 : Bys w1 (some ⟨b1, o1, none⟩) 4 c1 (fun q => m (4 + q)) := q1
  obtain ⟨P1, eP1⟩ : ∃ P, o + 1 = P := ⟨_, rfl⟩
  rw [eP1] at l1
  have ix1 : ∀ X : World, (ixP (.slice (some ⟨gp, o, none⟩) 3 3) (.int .i64 1)).run Try.prog X = .ok (.pointer (some ⟨gp, P1, none⟩)) X := fun X => by rw [← eP1]; exact ixP_run X gp o 3 3 1 (by omega)
  obtain ⟨b2, o2, c2, l2, q2⟩ := hcu 2 (by omega)
  replace l2 : w1.cell? ⟨gp, o + 2, none⟩ = some (.slice (some ⟨b2, o2, none⟩) 8 c2) := l2
  replace q2 : Bys w1 (some ⟨b2, o2, none⟩) 8 c2 (fun q => m (8 + q)) := q2
  obtain ⟨P2, eP2⟩ : ∃ P, o + 2 = P := ⟨_, rfl⟩
  rw [eP2] at l2
  have ix2 : ∀ X : World, (ixP (.slice (some ⟨gp, o, none⟩) 3 3) (.int .i64 2)).run Try.prog X = .ok (.pointer (some ⟨gp, P2, none⟩)) X := fun X => by rw [← eP2]; exact ixP_run X gp o 3 3 2 (by omega)
  obtain ⟨N2, eN2⟩ : ∃ N, rdN (fun q => m (8 + q)) = N := ⟨_, rfl⟩
  have hn2 : ∀ X, Below w1.heap.size w1 X → Calls Try.prog 78 #[.slice (some ⟨b2, o2, none⟩) 8 c2] X fun e w' => e = .returned (.int .u64 N2) ∧ w' = X := fun X h => by
    rw [← eN2]
    exact rnum7 (some ⟨b2, o2, none⟩) c2 (fun q => m (8 + q)) X (q2.below h) (fun j _ => hm _)
  have HN2 := hid hn2
  have bd : ∀ X : World, (bdFork #[(2, .int .u64 N2)]).run Try.prog X = .ok (.agg (cel (sFork ⟨fun _ => 0, fun _ => 0, N2⟩))) X := fun X => by kernel_rfl
  have sv := svFork_newv w1 oFork ⟨fun _ => 0, fun _ => 0, N2⟩
  obtain ⟨g, eg⟩ : ∃ g, w1.heap.size = g := ⟨_, rfl⟩
  obtain ⟨V0, hV0⟩ : ∃ V, w1.alloc (.cells (cel (sFork ⟨fun _ => 0, fun _ => 0, N2⟩)) 28) = V := ⟨_, rfl⟩
  have hB0 : Below g w1 V0 := by rw [← hV0, ← eg]; exact (Below.refl _ _).alloc (Nat.le_refl _) _
  have rV0 : V0.heap[g]? = some (.cells (cel (sFork ⟨fun _ => 0, fun _ => 0, N2⟩)) 28) := by rw [← hV0]; exact heap_new eg.symm
  rw [hV0, eg] at sv
  have ez := z w1
  have EG := hid eg
  have EN2 := hid eN2
  have Q0 := hid q0
  have L0 := hid l0
  have Q1 := hid q1
  have L1 := hid l1
  have Q2 := hid q2
  have L2 := hid l2
  have RV0 := hid rV0
  have HV0 := hid hB0
  have HB1 := hid hb1
  have HGP := hid hgp
  clear rV0 hB0 hb1 hgp hcu q0 eP0 q1 eP1 q2 eP2 hn2 eN2
  go_upto_region 5 with (go_at_call 78; first | refine (HN2.out _ (Below.refl _ _)).mono ?_; rintro e w2 ⟨rfl, hw⟩; obtain rfl := hw.symm)
  clear bd sv ez hV0 eg z
  have hsrc0 : ∀ j, j < 4 → (V0.drew).cell? (Addr.add ⟨b0, o0, none⟩ j) = some (.int .u8 (m (0 + j))) := fun j hj => by
    obtain ⟨b', o', e', _, _, h'⟩ := bys_at (Q0.out.below (w' := V0.drew) (by rw [EG.out]; exact HV0.out.drew)) (by omega)
    cases e'
    rw [Addr.add_mid]
    exact h' j hj
  have HCP0 := hid (copy_seg V0.drew g 0 4 (sFork ⟨fun _ => 0, fun _ => 0, N2⟩) (sFork ⟨fun q => m (0 + q), fun _ => 0, N2⟩) (fun q => m (0 + q)) ⟨b0, o0, none⟩ c0 4 28 RV0.out (by rw [slFork]; omega) hsrc0 (by kernel_rfl))
  clear hsrc0
  refine wp_region_noPanic ?_
  refine wp_region_held_drew (S := fun X => Below g w1 X) (by kernel_rfl) (HV0.out.drew) (fun hHeld => ?_)
  refine tk 0 (v := ?v1) ?y1 hHeld ?r1
  case y1 => intro w hSw; go_simp; try with_reducible rfl
  refine tk 1 (v := ?v2) ?y2 hHeld ?r2
  case y2 => intro w hSw; go_simp; try with_reducible rfl
  refine tk 2 (v := ?v3) ?y3 hHeld ?r3
  case y3 => intro w hSw; go_simp; try with_reducible rfl
  refine tk 3 (v := ?v4) ?y4 hHeld ?r4
  case y4 => intro w hSw; go_simp; try with_reducible rfl
  refine tk 4 (v := ?v5) ?y5 hHeld ?r5
  case y5 => intro w hSw; have ld := (below_cell hSw (by rw [← EG.out]; exact HGP.out)).trans L0.out; go_simp; try with_reducible rfl
  try simp only [Act.put, List.setIfInBounds_toArray, List.set_cons_zero, List.set_cons_succ, Array.toArray_toList, List.getElem_toArray, List.getElem_cons_zero, List.getElem_cons_succ]
  refine wpAnyH_ready (rs := [5]) (by kernel_rfl) (by simp) ?_
  refine AllReadyH.cons rfl (fun K hK => ?_) AllReadyH.nil
  refine step_copy_is (by rfl) _ _ 39 39 (by rfl) _ _ _ _ (by rfl) (by rfl) HCP0.out ?_
  refine hK.out _ _ (below_row HV0.out.drew (Nat.le_refl _) _) (fun hHeld => ?_)
  clear hK K
  try simp only [Act.put, List.setIfInBounds_toArray, List.set_cons_zero, List.set_cons_succ, Array.toArray_toList, List.getElem_toArray, List.getElem_cons_zero, List.getElem_cons_succ]
  refine wpAnyH_done (by kernel_rfl) ?_ _
  refine NoPanic.normal ?_
  obtain ⟨V1, hV1⟩ : ∃ V, (V0.drew).setRow g (cel (sFork ⟨fun q => m (0 + q), fun _ => 0, N2⟩)) = V := ⟨_, rfl⟩
  have RV1 : Hid (V1.heap[g]? = some (.cells (cel (sFork ⟨fun q => m (0 + q), fun _ => 0, N2⟩)) 28)) := by rw [← hV1]; exact setRow_at (w := V0.drew) RV0.out
  have HV1 : Hid (Below g w1 V1) := by rw [← hV1]; exact below_row HV0.out.drew (Nat.le_refl _) _
  rw [hV1]
  clear hV1
  go_upto_region 6 with fail
  have hsrc1 : ∀ j, j < 4 → (V1.drew).cell? (Addr.add ⟨b1, o1, none⟩ j) = some (.int .u8 (m (4 + j))) := fun j hj => by
    obtain ⟨b', o', e', _, _, h'⟩ := bys_at (Q1.out.below (w' := V1.drew) (by rw [EG.out]; exact HV1.out.drew)) (by omega)
    cases e'
    rw [Addr.add_mid]
    exact h' j hj
  have HCP1 := hid (copy_seg V1.drew g 4 4 (sFork ⟨fun q => m (0 + q), fun _ => 0, N2⟩) (sFork ⟨fun q => m (0 + q), fun q => m (4 + q), N2⟩) (fun q => m (4 + q)) ⟨b1, o1, none⟩ c1 4 28 RV1.out (by rw [slFork]; omega) hsrc1 (by kernel_rfl))
  clear hsrc1
  refine wp_region_noPanic ?_
  refine wp_region_held_drew (S := fun X => Below g w1 X) (by kernel_rfl) (HV1.out.drew) (fun hHeld => ?_)
  refine tk 0 (v := ?v6) ?y6 hHeld ?r6
  case y6 => intro w hSw; go_simp; try with_reducible rfl
  refine tk 1 (v := ?v7) ?y7 hHeld ?r7
  case y7 => intro w hSw; go_simp; try with_reducible rfl
  refine tk 2 (v := ?v8) ?y8 hHeld ?r8
  case y8 => intro w hSw; go_simp; try with_reducible rfl
  refine tk 3 (v := ?v9) ?y9 hHeld ?r9
  case y9 => intro w hSw; go_simp; try with_reducible rfl
  refine tk 4 (v := ?v10) ?y10 hHeld ?r10
  case y10 => intro w hSw; have ld := (below_cell hSw (by rw [← EG.out]; exact HGP.out)).trans L1.out; go_simp; try with_reducible rfl
  try simp only [Act.put, List.setIfInBounds_toArray, List.set_cons_zero, List.set_cons_succ, Array.toArray_toList, List.getElem_toArray, List.getElem_cons_zero, List.getElem_cons_succ]
  refine wpAnyH_ready (rs := [5]) (by kernel_rfl) (by simp) ?_
  refine AllReadyH.cons rfl (fun K hK => ?_) AllReadyH.nil
  refine step_copy_is (by rfl) _ _ 39 39 (by rfl) _ _ _ _ (by rfl) (by rfl) HCP1.out ?_
  refine hK.out _ _ (below_row HV1.out.drew (Nat.le_refl _) _) (fun hHeld => ?_)
  clear hK K
  try simp only [Act.put, List.setIfInBounds_toArray, List.set_cons_zero, List.set_cons_succ, Array.toArray_toList, List.getElem_toArray, List.getElem_cons_zero, List.getElem_cons_succ]
  refine wpAnyH_done (by kernel_rfl) ?_ _
  refine NoPanic.normal ?_
  obtain ⟨V2, hV2⟩ : ∃ V, (V1.drew).setRow g (cel (sFork ⟨fun q => m (0 + q), fun q => m (4 + q), N2⟩)) = V := ⟨_, rfl⟩
  have RV2 : Hid (V2.heap[g]? = some (.cells (cel (sFork ⟨fun q => m (0 + q), fun q => m (4 + q), N2⟩)) 28)) := by rw [← hV2]; exact setRow_at (w := V1.drew) RV1.out
  have HV2 : Hid (Below g w1 V2) := by rw [← hV2]; exact below_row HV1.out.drew (Nat.le_refl _) _
  rw [hV2]
  clear hV2
  obtain ⟨vv, ev⟩ : ∃ v : VFork, ⟨fun q => m (0 + q), fun q => m (4 + q), N2⟩ = v := ⟨_, rfl⟩
  have rv := RV2.out
  rw [ev] at rv
  have rr : V2.heap[y]? = some (.cells (cel (sFork oFork)) 28) := (HV2.out.block _ (by rw [← EG.out]; exact Nat.lt_of_lt_of_le HY.out HB1.out.size)).trans ((HB1.out.block _ HY.out).trans R2.out)
  have sv := svFork_run rr vv
  have lv := lvFork_mid (x := vv) rv 0 (take_all _) rfl
  have RR := hid rr
  have EV := hid ev
  clear rr rv ev
  go_wp2
  refine retFork _ _ y vv 28 _ rfl rfl rfl rfl (setRow_at RR.out) ⟨?_, ?_⟩
  · rw [← EV.out, ← EN2.out]
    rfl
  have e0 := EY.out
  have e1 := HB2.out.size
  have e2 := HB1.out.size
  have e3 := EG.out
  exact below_row (HB2.out.trans ((HB1.out.mono (by omega)).trans (HV2.out.mono (by omega)))) (by omega) _

end Go.Proofs.Ytehpfemlcjcabaa

namespace Go.Proofs.Ytehpfemlcjcabaa

open Go.RowKit

set_option linter.unusedVariables false

set_option linter.unusedSimpArgs false

attribute [local go_sem ↓] sv24_eq lv24_eq ix22_eq slr_eq bd27_eq bs22_eq sv8_eq mkI_eq ixI_eq ixP_eq bsP_eq bsI_eq lvFork_eq svFork_eq bdFork_eq lvCheckpoint_eq svCheckpoint_eq bdCheckpoint_eq lvValidator_eq svValidator_eq bdValidator_eq lvEth1_eq svEth1_eq bdEth1_eq lvHeader_eq svHeader_eq bdHeader_eq

set_option maxRecDepth 20000 in
set_option maxHeartbeats 2000000 in
theorem readHeader_ok (m : Nat → Int) (ao : Option Addr) (cap : Nat) (w : World) (hb : Bys w ao 112 cap m) (hm : ∀ j, 0 ≤ m j ∧ m j < 256) (hlc : 112 ≤ cap) (hcap : cap ≤ 9223372036854775807) :
    Calls Try.prog 40 #[.slice ao 112 cap] w fun e w' => e = .returned (.tuple #[.agg (cel (sHeader (pHeader m))), .int .i64 0]) ∧ Below w.heap.size w w' := by
  have z := zeroHeader
  obtain ⟨W1, hW1⟩ : ∃ W, w.alloc (.cells (cel (sHeader oHeader)) 30) = W := ⟨_, rfl⟩
  obtain ⟨W2, hW2⟩ : ∃ W, W1.alloc (.cells (vs .i64 5 zHeader) 3) = W := ⟨_, rfl⟩
  have hB1 : Below w.heap.size w W1 := by rw [← hW1]; exact (Below.refl _ _).alloc (Nat.le_refl _) _
  have z1 : W1.heap.size = w.heap.size + 1 := by rw [← hW1]; simp
  have z2 : W2.heap.size = w.heap.size + 2 := by rw [← hW2]; simp [z1]
  have hB2 : Below w.heap.size w W2 := by rw [← hW2]; exact hB1.alloc (by omega) _
  have r1 : W1.heap[w.heap.size]? = some (.cells (cel (sHeader oHeader)) 30) := by rw [← hW1]; exact heap_new rfl
  have r2 : W2.heap[w.heap.size]? = some (.cells (cel (sHeader oHeader)) 30) := by rw [← hW2]; exact (heap_old (by omega)).trans r1
  have g2 : W2.heap[W1.heap.size]? = some (.cells (vs .i64 5 zHeader) 3) := by rw [← hW2]; exact heap_new rfl
  have bsi := bsI_Header W1
  rw [hW2] at bsi
  have hcut := cut7_ok fixHeader m ao cap W1.heap.size W2 (hb.below hB2) hm (by omega) hlc hcap g2 (by omega) zposHeader (by omega)
  obtain ⟨y, ey⟩ : ∃ y, w.heap.size = y := ⟨_, rfl⟩
  obtain ⟨y1, ey1⟩ : ∃ y, W1.heap.size = y := ⟨_, rfl⟩
  rw [ey1] at bsi hcut
  have hy : y < W2.heap.size := by omega
  rw [ey] at r2
  have HCUT := hid hcut
  have R2 := hid r2
  have HB2 := hid hB2
  have HY := hid hy
  have EY := hid ey
  clear hcut r2 hB2 hy r1 g2 hB1 z1 z2 hlc hcap hb
  go_enter Try.func40, Try.ntmps40
  go_upto_region 2 with (go_at_call 36; refine HCUT.out.mono ?_; rintro e w1 ⟨gp, o, rfl, hgp, hcu, hb1⟩)
  clear hW1 hW2 ey ey1 bsi
  obtain ⟨b0, o0, c0, l0, q0⟩ := hcu 0 (by omega)
  replace l0 : w1.cell? ⟨gp, o + 0, none⟩ = some (.slice (some ⟨b0, o0, none⟩) 8 c0) := l0
  replace q0 : Bys w1 (some ⟨b0, o0, none⟩) 8 c0 (fun q => m (0 + q)) := q0
  obtain ⟨P0, eP0⟩ : ∃ P, o + 0 = P := ⟨_, rfl⟩
  rw [eP0] at l0
  have ix0 : ∀ X : World, (ixP (.slice (some ⟨gp, o, none⟩) 5 5) (.int .i64 0)).run Try.prog X = .ok (.pointer (some ⟨gp, P0, none⟩)) X := fun X => by rw [← eP0]; exact ixP_run X gp o 5 5 0 (by omega)
  obtain ⟨b1, o1, c1, l1, q1⟩ := hcu 1 (by omega)
  replace l1 : w1.cell? ⟨gp, o + 1, none⟩ = some (.slice (some ⟨b1, o1, none⟩) 8 c1) := l1
  replace q1 : Bys w1 (some ⟨b1, o1, none⟩) 8 c1 (fun q => m (8 + q)) := q1
  obtain ⟨P1, eP1⟩ : ∃ P, o + 1 = P := ⟨_, rfl⟩
  rw [eP1] at l1
  have ix1 : ∀ X : World, (ixP (.slice (some ⟨gp, o, none⟩) 5 5) (.int .i64 1)).run Try.prog X = .ok (.pointer (some ⟨gp, P1, none⟩)) X := fun X => by rw [← eP1]; exact ixP_run X gp o 5 5 1 (by omega)
  obtain ⟨b2, o2, c2, l2, q2⟩ := hcu 2 (by omega)
  replace l2 : w1.cell? ⟨gp, o + 2, none⟩ = some (.slice (some ⟨b2, o2, none⟩) 32 c2) := l2
  replace q2 : Bys w1 (some ⟨b2, o2, none⟩) 32 c2 (fun q => m (16 + q)) := q2
  obtain ⟨P2, eP2⟩ : ∃ P, o + 2 = P := ⟨_, rfl⟩
  rw [eP2] at l2
  have ix2 : ∀ X : World, (ixP (.slice (some ⟨gp, o, none⟩) 5 5) (.int .i64 2)).run Try.prog X = .ok (.pointer (some ⟨gp, P2, none⟩)) X := fun X => by rw [← eP2]; exact ixP_run X gp o 5 5 2 (by omega)
  obtain ⟨b3, o3, c3, l3, q3⟩ := hcu 3 (by omega)
  replace l3 : w1.cell? ⟨gp, o + 3, none⟩ = some (.slice (some ⟨b3, o3, none⟩) 32 c3) := l3
  replace q3 : Bys w1 (some ⟨b3, o3, none⟩) 32 c3 (fun q => m (48 + q)) := q3
  obtain ⟨P3, eP3⟩ : ∃ P, o + 3 = P := ⟨_, rfl⟩
  rw [eP3] at l3
  have ix3 : ∀ X : World, (ixP (.slice (some ⟨gp, o, none⟩) 5 5) (.int .i64 3)).run Try.prog X = .ok (.pointer (some ⟨gp, P3, none⟩)) X := fun X => by rw [← eP3]; exact ixP_run X gp o 5 5 3 (by omega)
  obtain ⟨b4, o4, c4, l4, q4⟩ := hcu 4 (by omega)
  replace l4 : w1.cell? ⟨gp, o + 4, none⟩ = some (.slice (some ⟨b4, o4, none⟩) 32 c4) := l4
  replace q4 : Bys w1 (some ⟨b4, o4, none⟩) 32 c4 (fun q => m (80 + q)) := q4
  obtain ⟨P4, eP4⟩ : ∃ P, o + 4 = P := ⟨_, rfl⟩
  rw [eP4] at l4
  have ix4 : ∀ X : World, (ixP (.slice (some ⟨gp, o, none⟩) 5 5) (.int .i64 4)).run Try.prog X = .ok (.pointer (some ⟨gp, P4, none⟩)) X := fun X => by rw [← eP4]; exact ixP_run X gp o 5 5 4 (by omega)
  obtain ⟨N0, eN0⟩ : ∃ N, rdN (fun q => m (0 + q)) = N := ⟨_, rfl⟩
  have hn0 : ∀ X, Below w1.heap.size w1 X → Calls Try.prog 78 #[.slice (some ⟨b0, o0, none⟩) 8 c0] X fun e w' => e = .returned (.int .u64 N0) ∧ w' = X := fun X h => by
    rw [← eN0]
    exact rnum7 (some ⟨b0, o0, none⟩) c0 (fun q => m (0 + q)) X (q0.below h) (fun j _ => hm _)
  have HN0 := hid hn0
  obtain ⟨N1, eN1⟩ : ∃ N, rdN (fun q => m (8 + q)) = N := ⟨_, rfl⟩
  have hn1 : ∀ X, Below w1.heap.size w1 X → Calls Try.prog 78 #[.slice (some ⟨b1, o1, none⟩) 8 c1] X fun e w' => e = .returned (.int .u64 N1) ∧ w' = X := fun X h => by
    rw [← eN1]
    exact rnum7 (some ⟨b1, o1, none⟩) c1 (fun q => m (8 + q)) X (q1.below h) (fun j _ => hm _)
  have HN1 := hid hn1
  have bd : ∀ X : World, (bdHeader #[(0, .int .u64 N0), (1, .int .u64 N1)]).run Try.prog X = .ok (.agg (cel (sHeader ⟨N0, N1, fun _ => 0, fun _ => 0, fun _ => 0⟩))) X := fun X => by kernel_rfl
  obtain ⟨g, eg⟩ : ∃ g, w1.heap.size = g := ⟨_, rfl⟩
  obtain ⟨wd, hwd⟩ : ∃ X, w1.drew = X := ⟨_, rfl⟩
  have egd : wd.heap.size = g := by rw [← hwd]; exact eg
  have hwe : Below g w1 wd := by rw [← hwd]; exact (Below.refl _ _).drew
  have HWD : Hid (Below g w1 w1.drew) := (Below.refl _ _).drew
  have hal : Below g w1 (wd.alloc (.cells (cel (sHeader oHeader)) 30)) := hwe.alloc (by rw [egd]; exact Nat.le_refl _) _
  have sv := svHeader_newv wd oHeader ⟨N0, N1, fun _ => 0, fun _ => 0, fun _ => 0⟩
  obtain ⟨V0, hV0⟩ : ∃ V, wd.alloc (.cells (cel (sHeader ⟨N0, N1, fun _ => 0, fun _ => 0, fun _ => 0⟩)) 30) = V := ⟨_, rfl⟩
  have hB0 : Below g w1 V0 := by rw [← hV0]; exact hwe.alloc (by rw [egd]; exact Nat.le_refl _) _
  have rV0 : V0.heap[g]? = some (.cells (cel (sHeader ⟨N0, N1, fun _ => 0, fun _ => 0, fun _ => 0⟩)) 30) := by rw [← hV0]; exact heap_new egd.symm
  rw [hV0, egd] at sv
  have EG := hid eg
  have HWE := hid hwe
  have HAL := hid hal
  have EN0 := hid eN0
  have EN1 := hid eN1
  have Q0 := hid q0
  have L0 := hid l0
  have Q1 := hid q1
  have L1 := hid l1
  have Q2 := hid q2
  have L2 := hid l2
  have Q3 := hid q3
  have L3 := hid l3
  have Q4 := hid q4
  have L4 := hid l4
  have RV0 := hid rV0
  have HV0 := hid hB0
  have HB1 := hid hb1
  have HGP := hid hgp
  clear rV0 hB0 hb1 hgp hcu q0 eP0 q1 eP1 q2 eP2 q3 eP3 q4 eP4 hn0 eN0 hn1 eN1
  clear hwe hal eg
  go_upto_region 4 with fail
  refine wp_region_noPanic ?_
  refine wp_region_held_drew (S := fun X => Below g w1 X) (by kernel_rfl) (HWD.out) (fun hHeld => ?_)
  rw [hwd] at hHeld ⊢
  clear hwd
  refine tk 0 (v := ?v26) ?y26 hHeld ?r26
  case y26 => intro w hSw; go_simp; try with_reducible rfl
  refine tk 1 (v := ?v27) ?y27 hHeld ?r27
  case y27 => intro w hSw; go_simp; try with_reducible rfl
  refine tk 2 (v := ?v28) ?y28 hHeld ?r28
  case y28 => intro w hSw; have ld := (below_cell hSw (by rw [← EG.out]; exact HGP.out)).trans L0.out; go_simp; try with_reducible rfl
  refine tk 4 (v := ?v29) ?y29 hHeld ?r29
  case y29 => intro w hSw; go_simp; try with_reducible rfl
  refine tk 5 (v := ?v30) ?y30 hHeld ?r30
  case y30 => intro w hSw; go_simp; try with_reducible rfl
  refine tk 6 (v := ?v31) ?y31 hHeld ?r31
  case y31 => intro w hSw; have ld := (below_cell hSw (by rw [← EG.out]; exact HGP.out)).trans L1.out; go_simp; try with_reducible rfl
  try simp only [Act.put, List.setIfInBounds_toArray, List.set_cons_zero, List.set_cons_succ, Array.toArray_toList, List.getElem_toArray, List.getElem_cons_zero, List.getElem_cons_succ]
  refine share V0 (act := ?act) (fun KT => ?main) ?tail
  case main =>
    refine wpAnyH_ready (rs := [3, 9]) (by kernel_rfl) (by simp) ?_
    refine AllReadyH.cons rfl (fun K hK => ?_) (AllReadyH.cons rfl (fun K hK => ?_) AllReadyH.nil)
    · go_simp
      refine (HN0.out _ (by rw [EG.out]; exact HWE.out)).mono ?_
      rintro e w2 ⟨rfl, rfl⟩
      dsimp only
      refine hK.out _ _ HWE.out (fun hHeld => ?_)
      clear hK K
      try simp only [Act.put, List.setIfInBounds_toArray, List.set_cons_zero, List.set_cons_succ, Array.toArray_toList, List.getElem_toArray, List.getElem_cons_zero, List.getElem_cons_succ]
      refine wpAnyH_ready (rs := [7, 9]) (by kernel_rfl) (by simp) ?_
      refine AllReadyH.cons rfl (fun K hK => ?_) (AllReadyH.cons rfl (fun K hK => ?_) AllReadyH.nil)
      · go_simp
        refine (HN1.out _ (by rw [EG.out]; exact HWE.out)).mono ?_
        rintro e w2 ⟨rfl, rfl⟩
        dsimp only
        refine hK.out _ _ HWE.out (fun hHeld => ?_)
        clear hK K
        try simp only [Act.put, List.setIfInBounds_toArray, List.set_cons_zero, List.set_cons_succ, Array.toArray_toList, List.getElem_toArray, List.getElem_cons_zero, List.getElem_cons_succ]
        refine tk 8 (v := ?v32) ?y32 hHeld ?r32
        case y32 => intro w hSw; go_simp; try with_reducible rfl
        try simp only [Act.put, List.setIfInBounds_toArray, List.set_cons_zero, List.set_cons_succ, Array.toArray_toList, List.getElem_toArray, List.getElem_cons_zero, List.getElem_cons_succ]
        refine wpAnyH_ready (rs := [9]) (by kernel_rfl) (by simp) ?_
        refine AllReadyH.cons rfl (fun K hK => ?_) AllReadyH.nil
        go_simp
        refine hK.out _ _ HAL.out (fun hHeld => ?_)
        clear hK K
        try simp only [Act.put, List.setIfInBounds_toArray, List.set_cons_zero, List.set_cons_succ, Array.toArray_toList, List.getElem_toArray, List.getElem_cons_zero, List.getElem_cons_succ]
        refine wpAnyH_ready (rs := [10]) (by kernel_rfl) (by simp) ?_
        refine AllReadyH.cons rfl (fun K hK => ?_) AllReadyH.nil
        go_simp
        refine hK.out _ _ HV0.out (fun hHeld => ?_)
        clear hK K
        try simp only [Act.put, List.setIfInBounds_toArray, List.set_cons_zero, List.set_cons_succ, Array.toArray_toList, List.getElem_toArray, List.getElem_cons_zero, List.getElem_cons_succ]
        exact wpAnyH_done (by kernel_rfl) KT _
      · go_simp
        refine hK.out _ _ HAL.out (fun hHeld => ?_)
        clear hK K
        try simp only [Act.put, List.setIfInBounds_toArray, List.set_cons_zero, List.set_cons_succ, Array.toArray_toList, List.getElem_toArray, List.getElem_cons_zero, List.getElem_cons_succ]
        refine wpAnyH_ready (rs := [7]) (by kernel_rfl) (by simp) ?_
        refine AllReadyH.cons rfl (fun K hK => ?_) AllReadyH.nil
        go_simp
        refine (HN1.out _ (by rw [EG.out]; exact HAL.out)).mono ?_
        rintro e w2 ⟨rfl, rfl⟩
        dsimp only
        refine hK.out _ _ HAL.out (fun hHeld => ?_)
        clear hK K
        try simp only [Act.put, List.setIfInBounds_toArray, List.set_cons_zero, List.set_cons_succ, Array.toArray_toList, List.getElem_toArray, List.getElem_cons_zero, List.getElem_cons_succ]
        refine tk 8 (v := ?v33) ?y33 hHeld ?r33
        case y33 => intro w hSw; go_simp; try with_reducible rfl
        try simp only [Act.put, List.setIfInBounds_toArray, List.set_cons_zero, List.set_cons_succ, Array.toArray_toList, List.getElem_toArray, List.getElem_cons_zero, List.getElem_cons_succ]
        refine wpAnyH_ready (rs := [10]) (by kernel_rfl) (by simp) ?_
        refine AllReadyH.cons rfl (fun K hK => ?_) AllReadyH.nil
        go_simp
        refine hK.out _ _ HV0.out (fun hHeld => ?_)
        clear hK K
        try simp only [Act.put, List.setIfInBounds_toArray, List.set_cons_zero, List.set_cons_succ, Array.toArray_toList, List.getElem_toArray, List.getElem_cons_zero, List.getElem_cons_succ]
        exact wpAnyH_done (by kernel_rfl) KT _
    · go_simp
      refine hK.out _ _ HAL.out (fun hHeld => ?_)
      clear hK K
      try simp only [Act.put, List.setIfInBounds_toArray, List.set_cons_zero, List.set_cons_succ, Array.toArray_toList, List.getElem_toArray, List.getElem_cons_zero, List.getElem_cons_succ]
      refine wpAnyH_ready (rs := [3]) (by kernel_rfl) (by simp) ?_
      refine AllReadyH.cons rfl (fun K hK => ?_) AllReadyH.nil
      go_simp
      refine (HN0.out _ (by rw [EG.out]; exact HAL.out)).mono ?_
      rintro e w2 ⟨rfl, rfl⟩
      dsimp only
      refine hK.out _ _ HAL.out (fun hHeld => ?_)
      clear hK K
      try simp only [Act.put, List.setIfInBounds_toArray, List.set_cons_zero, List.set_cons_succ, Array.toArray_toList, List.getElem_toArray, List.getElem_cons_zero, List.getElem_cons_succ]
      refine wpAnyH_ready (rs := [7]) (by kernel_rfl) (by simp) ?_
      refine AllReadyH.cons rfl (fun K hK => ?_) AllReadyH.nil
      go_simp
      refine (HN1.out _ (by rw [EG.out]; exact HAL.out)).mono ?_
      rintro e w2 ⟨rfl, rfl⟩
      dsimp only
      refine hK.out _ _ HAL.out (fun hHeld => ?_)
      clear hK K
      try simp only [Act.put, List.setIfInBounds_toArray, List.set_cons_zero, List.set_cons_succ, Array.toArray_toList, List.getElem_toArray, List.getElem_cons_zero, List.getElem_cons_succ]
      refine tk 8 (v := ?v34) ?y34 hHeld ?r34
      case y34 => intro w hSw; go_simp; try with_reducible rfl
      try simp only [Act.put, List.setIfInBounds_toArray, List.set_cons_zero, List.set_cons_succ, Array.toArray_toList, List.getElem_toArray, List.getElem_cons_zero, List.getElem_cons_succ]
      refine wpAnyH_ready (rs := [10]) (by kernel_rfl) (by simp) ?_
      refine AllReadyH.cons rfl (fun K hK => ?_) AllReadyH.nil
      go_simp
      refine hK.out _ _ HV0.out (fun hHeld => ?_)
      clear hK K
      try simp only [Act.put, List.setIfInBounds_toArray, List.set_cons_zero, List.set_cons_succ, Array.toArray_toList, List.getElem_toArray, List.getElem_cons_zero, List.getElem_cons_succ]
      exact wpAnyH_done (by kernel_rfl) KT _
  case tail =>
    refine NoPanic.normal ?_
    go_upto_region 5 with fail
    clear bd sv hV0 egd z
    have hsrc2 : ∀ j, j < 32 → (V0.drew).cell? (Addr.add ⟨b2, o2, none⟩ j) = some (.int .u8 (m (16 + j))) := fun j hj => by
      obtain ⟨b', o', e', _, _, h'⟩ := bys_at (Q2.out.below (w' := V0.drew) (by rw [EG.out]; exact HV0.out.drew)) (by omega)
      cases e'
      rw [Addr.add_mid]
      exact h' j hj
    have HCP0 := hid (copy_seg V0.drew g 2 32 (sHeader ⟨N0, N1, fun _ => 0, fun _ => 0, fun _ => 0⟩) (sHeader ⟨N0, N1, fun q => m (16 + q), fun _ => 0, fun _ => 0⟩) (fun q => m (16 + q)) ⟨b2, o2, none⟩ c2 32 30 RV0.out (by rw [slHeader]; omega) hsrc2 (by kernel_rfl))
    clear hsrc2
    refine wp_region_noPanic ?_
    refine wp_region_held_drew (S := fun X => Below g w1 X) (by kernel_rfl) (HV0.out.drew) (fun hHeld => ?_)
    refine tk 0 (v := ?v35) ?y35 hHeld ?r35
    case y35 => intro w hSw; go_simp; try with_reducible rfl
    refine tk 1 (v := ?v36) ?y36 hHeld ?r36
    case y36 => intro w hSw; go_simp; try with_reducible rfl
    refine tk 2 (v := ?v37) ?y37 hHeld ?r37
    case y37 => intro w hSw; go_simp; try with_reducible rfl
    refine tk 3 (v := ?v38) ?y38 hHeld ?r38
    case y38 => intro w hSw; go_simp; try with_reducible rfl
    refine tk 4 (v := ?v39) ?y39 hHeld ?r39
    case y39 => intro w hSw; have ld := (below_cell hSw (by rw [← EG.out]; exact HGP.out)).trans L2.out; go_simp; try with_reducible rfl
    try simp only [Act.put, List.setIfInBounds_toArray, List.set_cons_zero, List.set_cons_succ, Array.toArray_toList, List.getElem_toArray, List.getElem_cons_zero, List.getElem_cons_succ]
    refine wpAnyH_ready (rs := [5]) (by kernel_rfl) (by simp) ?_
    refine AllReadyH.cons rfl (fun K hK => ?_) AllReadyH.nil
    refine step_copy_is (by rfl) _ _ 39 39 (by rfl) _ _ _ _ (by rfl) (by rfl) HCP0.out ?_
    refine hK.out _ _ (below_row HV0.out.drew (Nat.le_refl _) _) (fun hHeld => ?_)
    clear hK K
    try simp only [Act.put, List.setIfInBounds_toArray, List.set_cons_zero, List.set_cons_succ, Array.toArray_toList, List.getElem_toArray, List.getElem_cons_zero, List.getElem_cons_succ]
    refine wpAnyH_done (by kernel_rfl) ?_ _
    refine NoPanic.normal ?_
    obtain ⟨V1, hV1⟩ : ∃ V, (V0.drew).setRow g (cel (sHeader ⟨N0, N1, fun q => m (16 + q), fun _ => 0, fun _ => 0⟩)) = V := ⟨_, rfl⟩
    have RV1 : Hid (V1.heap[g]? = some (.cells (cel (sHeader ⟨N0, N1, fun q => m (16 + q), fun _ => 0, fun _ => 0⟩)) 30)) := by rw [← hV1]; exact setRow_at (w := V0.drew) RV0.out
    have HV1 : Hid (Below g w1 V1) := by rw [← hV1]; exact below_row HV0.out.drew (Nat.le_refl _) _
    rw [hV1]
    clear hV1
    go_upto_region 6 with fail
    have hsrc3 : ∀ j, j < 32 → (V1.drew).cell? (Addr.add ⟨b3, o3, none⟩ j) = some (.int .u8 (m (48 + j))) := fun j hj => by
      obtain ⟨b', o', e', _, _, h'⟩ := bys_at (Q3.out.below (w' := V1.drew) (by rw [EG.out]; exact HV1.out.drew)) (by omega)
      cases e'
      rw [Addr.add_mid]
      exact h' j hj
    have HCP1 := hid (copy_seg V1.drew g 34 32 (sHeader ⟨N0, N1, fun q => m (16 + q), fun _ => 0, fun _ => 0⟩) (sHeader ⟨N0, N1, fun q => m (16 + q), fun q => m (48 + q), fun _ => 0⟩) (fun q => m (48 + q)) ⟨b3, o3, none⟩ c3 32 30 RV1.out (by rw [slHeader]; omega) hsrc3 (by kernel_rfl))
    clear hsrc3
    refine wp_region_noPanic ?_
    refine wp_region_held_drew (S := fun X => Below g w1 X) (by kernel_rfl) (HV1.out.drew) (fun hHeld => ?_)
    refine tk 0 (v := ?v40) ?y40 hHeld ?r40
    case y40 => intro w hSw; go_simp; try with_reducible rfl
    refine tk 1 (v := ?v41) ?y41 hHeld ?r41
    case y41 => intro w hSw; go_simp; try with_reducible rfl
    refine tk 2 (v := ?v42) ?y42 hHeld ?r42
    case y42 => intro w hSw; go_simp; try with_reducible rfl
    refine tk 3 (v := ?v43) ?y43 hHeld ?r43
    case y43 => intro w hSw; go_simp; try with_reducible rfl
    refine tk 4 (v := ?v44) ?y44 hHeld ?r44
    case y44 => intro w hSw; have ld := (below_cell hSw (by rw [← EG.out]; exact HGP.out)).trans L3.out; go_simp; try with_reducible rfl
    try simp only [Act.put, List.setIfInBounds_toArray, List.set_cons_zero, List.set_cons_succ, Array.toArray_toList, List.getElem_toArray, List.getElem_cons_zero, List.getElem_cons_succ]
    refine wpAnyH_ready (rs := [5]) (by kernel_rfl) (by simp) ?_
    refine AllReadyH.cons rfl (fun K hK => ?_) AllReadyH.nil
    refine step_copy_is (by rfl) _ _ 39 39 (by rfl) _ _ _ _ (by rfl) (by rfl) HCP1.out ?_
    refine hK.out _ _ (below_row HV1.out.drew (Nat.le_refl _) _) (fun hHeld => ?_)
    clear hK K
    try simp only [Act.put, List.setIfInBounds_toArray, List.set_cons_zero, List.set_cons_succ, Array.toArray_toList, List.getElem_toArray, List.getElem_cons_zero, List.getElem_cons_succ]
    refine wpAnyH_done (by kernel_rfl) ?_ _
    refine NoPanic.normal ?_
    obtain ⟨V2, hV2⟩ : ∃ V, (V1.drew).setRow g (cel (sHeader ⟨N0, N1, fun q => m (16 + q), fun q => m (48 + q), fun _ => 0⟩)) = V := ⟨_, rfl⟩
    have RV2 : Hid (V2.heap[g]? = some (.cells (cel (sHeader ⟨N0, N1, fun q => m (16 + q), fun q => m (48 + q), fun _ => 0⟩)) 30)) := by rw [← hV2]; exact setRow_at (w := V1.drew) RV1.out
    have HV2 : Hid (Below g w1 V2) := by rw [← hV2]; exact below_row HV1.out.drew (Nat.le_refl _) _
    rw [hV2]
    clear hV2
    go_upto_region 7 with fail
    have hsrc4 : ∀ j, j < 32 → (V2.drew).cell? (Addr.add ⟨b4, o4, none⟩ j) = some (.int .u8 (m (80 + j))) := fun j hj => by
      obtain ⟨b', o', e', _, _, h'⟩ := bys_at (Q4.out.below (w' := V2.drew) (by rw [EG.out]; exact HV2.out.drew)) (by omega)
      cases e'
      rw [Addr.add_mid]
      exact h' j hj
    have HCP2 := hid (copy_seg V2.drew g 66 32 (sHeader ⟨N0, N1, fun q => m (16 + q), fun q => m (48 + q), fun _ => 0⟩) (sHeader ⟨N0, N1, fun q => m (16 + q), fun q => m (48 + q), fun q => m (80 + q)⟩) (fun q => m (80 + q)) ⟨b4, o4, none⟩ c4 32 30 RV2.out (by rw [slHeader]; omega) hsrc4 (by kernel_rfl))
    clear hsrc4
    refine wp_region_noPanic ?_
    refine wp_region_held_drew (S := fun X => Below g w1 X) (by kernel_rfl) (HV2.out.drew) (fun hHeld => ?_)
    refine tk 0 (v := ?v45) ?y45 hHeld ?r45
    case y45 => intro w hSw; go_simp; try with_reducible rfl
    refine tk 1 (v := ?v46) ?y46 hHeld ?r46
    case y46 => intro w hSw; go_simp; try with_reducible rfl
    refine tk 2 (v := ?v47) ?y47 hHeld ?r47
    case y47 => intro w hSw; go_simp; try with_reducible rfl
    refine tk 3 (v := ?v48) ?y48 hHeld ?r48
    case y48 => intro w hSw; go_simp; try with_reducible rfl
    refine tk 4 (v := ?v49) ?y49 hHeld ?r49
    case y49 => intro w hSw; have ld := (below_cell hSw (by rw [← EG.out]; exact HGP.out)).trans L4.out; go_simp; try with_reducible rfl
    try simp only [Act.put, List.setIfInBounds_toArray, List.set_cons_zero, List.set_cons_succ, Array.toArray_toList, List.getElem_toArray, List.getElem_cons_zero, List.getElem_cons_succ]
    refine wpAnyH_ready (rs := [5]) (by kernel_rfl) (by simp) ?_
    refine AllReadyH.cons rfl (fun K hK => ?_) AllReadyH.nil
    refine step_copy_is (by rfl) _ _ 39 39 (by rfl) _ _ _ _ (by rfl) (by rfl) HCP2.out ?_
    refine hK.out _ _ (below_row HV2.out.drew (Nat.le_refl _) _) (fun hHeld => ?_)
    clear hK K
    try simp only [Act.put, List.setIfInBounds_toArray, List.set_cons_zero, List.set_cons_succ, Array.toArray_toList, List.getElem_toArray, List.getElem_cons_zero, List.getElem_cons_succ]
    refine wpAnyH_done (by kernel_rfl) ?_ _
    refine NoPanic.normal ?_
    obtain ⟨V3, hV3⟩ : ∃ V, (V2.drew).setRow g (cel (sHeader ⟨N0, N1, fun q => m (16 + q), fun q => m (48 + q), fun q => m (80 + q)⟩)) = V := ⟨_, rfl⟩
    have RV3 : Hid (V3.heap[g]? = some (.cells (cel (sHeader ⟨N0, N1, fun q => m (16 + q), fun q => m (48 + q), fun q => m (80 + q)⟩)) 30)) := by rw [← hV3]; exact setRow_at (w := V2.drew) RV2.out
    have HV3 : Hid (Below g w1 V3) := by rw [← hV3]; exact below_row HV2.out.drew (Nat.le_refl _) _
    rw [hV3]
    clear hV3
    obtain ⟨vv, ev⟩ : ∃ v : VHeader, ⟨N0, N1, fun q => m (16 + q), fun q => m (48 + q), fun q => m (80 + q)⟩ = v := ⟨_, rfl⟩
    have rv := RV3.out
    rw [ev] at rv
    have rr : V3.heap[y]? = some (.cells (cel (sHeader oHeader)) 30) := (HV3.out.block _ (by rw [← EG.out]; exact Nat.lt_of_lt_of_le HY.out HB1.out.size)).trans ((HB1.out.block _ HY.out).trans R2.out)
    have sv := svHeader_run rr vv
    have lv := lvHeader_mid (x := vv) rv 0 (take_all _) rfl
    have RR := hid rr
    have EV := hid ev
    clear rr rv ev
    go_wp2
    refine retHeader _ _ y vv 30 _ rfl rfl rfl rfl (setRow_at RR.out) ⟨?_, ?_⟩
    · rw [← EV.out, ← EN0.out, ← EN1.out]
      rfl
    have e0 := EY.out
    have e1 := HB2.out.size
    have e2 := HB1.out.size
    have e3 := EG.out
    exact below_row (HB2.out.trans ((HB1.out.mono (by omega)).trans (HV3.out.mono (by omega)))) (by omega) _

end Go.Proofs.Ytehpfemlcjcabaa

namespace Go.Proofs.Ytehpfemlcjcabaa

open Go.RowKit

set_option linter.unusedVariables false

set_option linter.unusedSimpArgs false

attribute [local go_sem ↓] sv24_eq lv24_eq ix22_eq slr_eq bd27_eq bs22_eq sv8_eq mkI_eq ixI_eq ixP_eq bsP_eq bsI_eq lvFork_eq svFork_eq bdFork_eq lvCheckpoint_eq svCheckpoint_eq bdCheckpoint_eq lvValidator_eq svValidator_eq bdValidator_eq lvEth1_eq svEth1_eq bdEth1_eq lvHeader_eq svHeader_eq bdHeader_eq

set_option maxRecDepth 20000 in
set_option maxHeartbeats 2000000 in
theorem readEth1_ok (m : Nat → Int) (ao : Option Addr) (cap : Nat) (w : World) (hb : Bys w ao 72 cap m) (hm : ∀ j, 0 ≤ m j ∧ m j < 256) (hlc : 72 ≤ cap) (hcap : cap ≤ 9223372036854775807) :
    Calls Try.prog 42 #[.slice ao 72 cap] w fun e w' => e = .returned (.tuple #[.agg (cel (sEth1 (pEth1 m))), .int .i64 0]) ∧ Below w.heap.size w w' := by
  have z := zeroEth1
  obtain ⟨W1, hW1⟩ : ∃ W, w.alloc (.cells (cel (sEth1 oEth1)) 34) = W := ⟨_, rfl⟩
  obtain ⟨W2, hW2⟩ : ∃ W, W1.alloc (.cells (vs .i64 3 zEth1) 3) = W := ⟨_, rfl⟩
  have hB1 : Below w.heap.size w W1 := by rw [← hW1]; exact (Below.refl _ _).alloc (Nat.le_refl _) _
  have z1 : W1.heap.size = w.heap.size + 1 := by rw [← hW1]; simp
  have z2 : W2.heap.size = w.heap.size + 2 := by rw [← hW2]; simp [z1]
  have hB2 : Below w.heap.size w W2 := by rw [← hW2]; exact hB1.alloc (by omega) _
  have r1 : W1.heap[w.heap.size]? = some (.cells (cel (sEth1 oEth1)) 34) := by rw [← hW1]; exact heap_new rfl
  have r2 : W2.heap[w.heap.size]? = some (.cells (cel (sEth1 oEth1)) 34) := by rw [← hW2]; exact (heap_old (by omega)).trans r1
  have g2 : W2.heap[W1.heap.size]? = some (.cells (vs .i64 3 zEth1) 3) := by rw [← hW2]; exact heap_new rfl
  have bsi := bsI_Eth1 W1
  rw [hW2] at bsi
  have hcut := cut7_ok fixEth1 m ao cap W1.heap.size W2 (hb.below hB2) hm (by omega) hlc hcap g2 (by omega) zposEth1 (by omega)
  obtain ⟨y, ey⟩ : ∃ y, w.heap.size = y := ⟨_, rfl⟩
  obtain ⟨y1, ey1⟩ : ∃ y, W1.heap.size = y := ⟨_, rfl⟩
  rw [ey1] at bsi hcut
  have hy : y < W2.heap.size := by omega
  rw [ey] at r2
  have HCUT := hid hcut
  have R2 := hid r2
  have HB2 := hid hB2
  have HY := hid hy
  have EY := hid ey
  clear hcut r2 hB2 hy r1 g2 hB1 z1 z2 hlc hcap hb
  go_enter Try.func42, Try.ntmps42
  go_upto_region 2 with (go_at_call 36; refine HCUT.out.mono ?_; rintro e w1 ⟨gp, o, rfl, hgp, hcu, hb1⟩)
  clear hW1 hW2 ey ey1 bsi
  obtain ⟨b0, o0, c0, l0, q0⟩ := hcu 0 (by omega)
  replace l0 : w1.cell? ⟨gp, o + 0, none⟩ = some (.slice (some ⟨b0, o0, none⟩) 32 c0) := l0
  replace q0 : Bys w1 (some ⟨b0, o0, none⟩) 32 c0 (fun q => m (0 + q)) := q0
  obtain ⟨P0, eP0⟩ : ∃ P, o + 0 = P := ⟨_, rfl⟩
  rw [eP0] at l0
  have ix0 : ∀ X : World, (ixP (.slice (some ⟨gp, o, none⟩) 3 3) (.int .i64 0)).run Try.prog X = .ok (.pointer (some ⟨gp, P0, none⟩)) X := fun X => by rw [← eP0]; exact ixP_run X gp o 3 3 0 (by omega)
  obtain ⟨b1, o1, c1, l1, q1⟩ := hcu 1 (by omega)
  replace l1 : w1.cell? ⟨gp, o + 1, none⟩ = some (.slice (some ⟨b1, o1, none⟩) 8 c1) := l1
  replace q1 : Bys w1 (some ⟨b1, o1, none⟩) 8 c1 (fun q => m (32 + q)) := q1
  obtain ⟨P1, eP1⟩ : ∃ P, o + 1 = P := ⟨_, rfl⟩
  rw [eP1] at l1
  have ix1 : ∀ X : World, (ixP (.slice (some ⟨gp, o, none⟩) 3 3) (.int .i64 1)).run Try.prog X = .ok (.pointer (some ⟨gp, P1, none⟩)) X := fun X => by rw [← eP1]; exact ixP_run X gp o 3 3 1 (by omega)
  obtain ⟨b2, o2, c2, l2, q2⟩ := hcu 2 (by omega)
  replace l2 : w1.cell? ⟨gp, o + 2, none⟩ = some (.slice (some ⟨b2, o2, none⟩) 32 c2) := l2
  replace q2 : Bys w1 (some ⟨b2, o2, none⟩) 32 c2 (fun q => m (40 + q)) := q2
  obtain ⟨P2, eP2⟩ : ∃ P, o + 2 = P := ⟨_, rfl⟩
  rw [eP2] at l2
  have ix2 : ∀ X : World, (ixP (.slice (some ⟨gp, o, none⟩) 3 3) (.int .i64 2)).run Try.prog X = .ok (.pointer (some ⟨gp, P2, none⟩)) X := fun X => by rw [← eP2]; exact ixP_run X gp o 3 3 2 (by omega)
  obtain ⟨N1, eN1⟩ : ∃ N, rdN (fun q => m (32 + q)) = N := ⟨_, rfl⟩
  have hn1 : ∀ X, Below w1.heap.size w1 X → Calls Try.prog 78 #[.slice (some ⟨b1, o1, none⟩) 8 c1] X fun e w' => e = .returned (.int .u64 N1) ∧ w' = X := fun X h => by
    rw [← eN1]
    exact rnum7 (some ⟨b1, o1, none⟩) c1 (fun q => m (32 + q)) X (q1.below h) (fun j _ => hm _)
  have HN1 := hid hn1
  have bd : ∀ X : World, (bdEth1 #[(1, .int .u64 N1)]).run Try.prog X = .ok (.agg (cel (sEth1 ⟨fun _ => 0, N1, fun _ => 0⟩))) X := fun X => by kernel_rfl
  have sv := svEth1_newv w1 oEth1 ⟨fun _ => 0, N1, fun _ => 0⟩
  obtain ⟨g, eg⟩ : ∃ g, w1.heap.size = g := ⟨_, rfl⟩
  obtain ⟨V0, hV0⟩ : ∃ V, w1.alloc (.cells (cel (sEth1 ⟨fun _ => 0, N1, fun _ => 0⟩)) 34) = V := ⟨_, rfl⟩
  have hB0 : Below g w1 V0 := by rw [← hV0, ← eg]; exact (Below.refl _ _).alloc (Nat.le_refl _) _
  have rV0 : V0.heap[g]? = some (.cells (cel (sEth1 ⟨fun _ => 0, N1, fun _ => 0⟩)) 34) := by rw [← hV0]; exact heap_new eg.symm
  rw [hV0, eg] at sv
  have ez := z w1
  have EG := hid eg
  have EN1 := hid eN1
  have Q0 := hid q0
  have L0 := hid l0
  have Q1 := hid q1
  have L1 := hid l1
  have Q2 := hid q2
  have L2 := hid l2
  have RV0 := hid rV0
  have HV0 := hid hB0
  have HB1 := hid hb1
  have HGP := hid hgp
  clear rV0 hB0 hb1 hgp hcu q0 eP0 q1 eP1 q2 eP2 hn1 eN1
  go_upto_region 5 with (go_at_call 78; first | refine (HN1.out _ (Below.refl _ _)).mono ?_; rintro e w2 ⟨rfl, hw⟩; obtain rfl := hw.symm)
  clear bd sv ez hV0 eg z
  have hsrc0 : ∀ j, j < 32 → (V0.drew).cell? (Addr.add ⟨b0, o0, none⟩ j) = some (.int .u8 (m (0 + j))) := fun j hj => by
    obtain ⟨b', o', e', _, _, h'⟩ := bys_at (Q0.out.below (w' := V0.drew) (by rw [EG.out]; exact HV0.out.drew)) (by omega)
    cases e'
    rw [Addr.add_mid]
    exact h' j hj
  have HCP0 := hid (copy_seg V0.drew g 0 32 (sEth1 ⟨fun _ => 0, N1, fun _ => 0⟩) (sEth1 ⟨fun q => m (0 + q), N1, fun _ => 0⟩) (fun q => m (0 + q)) ⟨b0, o0, none⟩ c0 32 34 RV0.out (by rw [slEth1]; omega) hsrc0 (by kernel_rfl))
  clear hsrc0
  refine wp_region_noPanic ?_
  refine wp_region_held_drew (S := fun X => Below g w1 X) (by kernel_rfl) (HV0.out.drew) (fun hHeld => ?_)
  refine tk 0 (v := ?v16) ?y16 hHeld ?r16
  case y16 => intro w hSw; go_simp; try with_reducible rfl
  refine tk 1 (v := ?v17) ?y17 hHeld ?r17
  case y17 => intro w hSw; go_simp; try with_reducible rfl
  refine tk 2 (v := ?v18) ?y18 hHeld ?r18
  case y18 => intro w hSw; go_simp; try with_reducible rfl
  refine tk 3 (v := ?v19) ?y19 hHeld ?r19
  case y19 => intro w hSw; go_simp; try with_reducible rfl
  refine tk 4 (v := ?v20) ?y20 hHeld ?r20
  case y20 => intro w hSw; have ld := (below_cell hSw (by rw [← EG.out]; exact HGP.out)).trans L0.out; go_simp; try with_reducible rfl
  try simp only [Act.put, List.setIfInBounds_toArray, List.set_cons_zero, List.set_cons_succ, Array.toArray_toList, List.getElem_toArray, List.getElem_cons_zero, List.getElem_cons_succ]
  refine wpAnyH_ready (rs := [5]) (by kernel_rfl) (by simp) ?_
  refine AllReadyH.cons rfl (fun K hK => ?_) AllReadyH.nil
  refine step_copy_is (by rfl) _ _ 39 39 (by rfl) _ _ _ _ (by rfl) (by rfl) HCP0.out ?_
  refine hK.out _ _ (below_row HV0.out.drew (Nat.le_refl _) _) (fun hHeld => ?_)
  clear hK K
  try simp only [Act.put, List.setIfInBounds_toArray, List.set_cons_zero, List.set_cons_succ, Array.toArray_toList, List.getElem_toArray, List.getElem_cons_zero, List.getElem_cons_succ]
  refine wpAnyH_done (by kernel_rfl) ?_ _
  refine NoPanic.normal ?_
  obtain ⟨V1, hV1⟩ : ∃ V, (V0.drew).setRow g (cel (sEth1 ⟨fun q => m (0 + q), N1, fun _ => 0⟩)) = V := ⟨_, rfl⟩
  have RV1 : Hid (V1.heap[g]? = some (.cells (cel (sEth1 ⟨fun q => m (0 + q), N1, fun _ => 0⟩)) 34)) := by rw [← hV1]; exact setRow_at (w := V0.drew) RV0.out
  have HV1 : Hid (Below g w1 V1) := by rw [← hV1]; exact below_row HV0.out.drew (Nat.le_refl _) _
  rw [hV1]
  clear hV1
  go_upto_region 6 with fail
  have hsrc2 : ∀ j, j < 32 → (V1.drew).cell? (Addr.add ⟨b2, o2, none⟩ j) = some (.int .u8 (m (40 + j))) := fun j hj => by
    obtain ⟨b', o', e', _, _, h'⟩ := bys_at (Q2.out.below (w' := V1.drew) (by rw [EG.out]; exact HV1.out.drew)) (by omega)
    cases e'
    rw [Addr.add_mid]
    exact h' j hj
  have HCP1 := hid (copy_seg V1.drew g 33 32 (sEth1 ⟨fun q => m (0 + q), N1, fun _ => 0⟩) (sEth1 ⟨fun q => m (0 + q), N1, fun q => m (40 + q)⟩) (fun q => m (40 + q)) ⟨b2, o2, none⟩ c2 32 34 RV1.out (by rw [slEth1]; omega) hsrc2 (by kernel_rfl))
  clear hsrc2
  refine wp_region_noPanic ?_
  refine wp_region_held_drew (S := fun X => Below g w1 X) (by kernel_rfl) (HV1.out.drew) (fun hHeld => ?_)
  refine tk 0 (v := ?v21) ?y21 hHeld ?r21
  case y21 => intro w hSw; go_simp; try with_reducible rfl
  refine tk 1 (v := ?v22) ?y22 hHeld ?r22
  case y22 => intro w hSw; go_simp; try with_reducible rfl
  refine tk 2 (v := ?v23) ?y23 hHeld ?r23
  case y23 => intro w hSw; go_simp; try with_reducible rfl
  refine tk 3 (v := ?v24) ?y24 hHeld ?r24
  case y24 => intro w hSw; go_simp; try with_reducible rfl
  refine tk 4 (v := ?v25) ?y25 hHeld ?r25
  case y25 => intro w hSw; have ld := (below_cell hSw (by rw [← EG.out]; exact HGP.out)).trans L2.out; go_simp; try with_reducible rfl
  try simp only [Act.put, List.setIfInBounds_toArray, List.set_cons_zero, List.set_cons_succ, Array.toArray_toList, List.getElem_toArray, List.getElem_cons_zero, List.getElem_cons_succ]
  refine wpAnyH_ready (rs := [5]) (by kernel_rfl) (by simp) ?_
  refine AllReadyH.cons rfl (fun K hK => ?_) AllReadyH.nil
  refine step_copy_is (by rfl) _ _ 39 39 (by rfl) _ _ _ _ (by rfl) (by rfl) HCP1.out ?_
  refine hK.out _ _ (below_row HV1.out.drew (Nat.le_refl _) _) (fun hHeld => ?_)
  clear hK K
  try simp only [Act.put, List.setIfInBounds_toArray, List.set_cons_zero, List.set_cons_succ, Array.toArray_toList, List.getElem_toArray, List.getElem_cons_zero, List.getElem_cons_succ]
  refine wpAnyH_done (by kernel_rfl) ?_ _
  refine NoPanic.normal ?_
  obtain ⟨V2, hV2⟩ : ∃ V, (V1.drew).setRow g (cel (sEth1 ⟨fun q => m (0 + q), N1, fun q => m (40 + q)⟩)) = V := ⟨_, rfl⟩
  have RV2 : Hid (V2.heap[g]? = some (.cells (cel (sEth1 ⟨fun q => m (0 + q), N1, fun q => m (40 + q)⟩)) 34)) := by rw [← hV2]; exact setRow_at (w := V1.drew) RV1.out
  have HV2 : Hid (Below g w1 V2) := by rw [← hV2]; exact below_row HV1.out.drew (Nat.le_refl _) _
  rw [hV2]
  clear hV2
  obtain ⟨vv, ev⟩ : ∃ v : VEth1, ⟨fun q => m (0 + q), N1, fun q => m (40 + q)⟩ = v := ⟨_, rfl⟩
  have rv := RV2.out
  rw [ev] at rv
  have rr : V2.heap[y]? = some (.cells (cel (sEth1 oEth1)) 34) := (HV2.out.block _ (by rw [← EG.out]; exact Nat.lt_of_lt_of_le HY.out HB1.out.size)).trans ((HB1.out.block _ HY.out).trans R2.out)
  have sv := svEth1_run rr vv
  have lv := lvEth1_mid (x := vv) rv 0 (take_all _) rfl
  have RR := hid rr
  have EV := hid ev
  clear rr rv ev
  go_wp2
  refine retEth1 _ _ y vv 34 _ rfl rfl rfl rfl (setRow_at RR.out) ⟨?_, ?_⟩
  · rw [← EV.out, ← EN1.out]
    rfl
  have e0 := EY.out
  have e1 := HB2.out.size
  have e2 := HB1.out.size
  have e3 := EG.out
  exact below_row (HB2.out.trans ((HB1.out.mono (by omega)).trans (HV2.out.mono (by omega)))) (by omega) _

end Go.Proofs.Ytehpfemlcjcabaa

namespace Go.Proofs.Ytehpfemlcjcabaa

open Go.RowKit

set_option linter.unusedVariables false

set_option linter.unusedSimpArgs false

attribute [local go_sem ↓] sv24_eq lv24_eq ix22_eq slr_eq bd27_eq bs22_eq sv8_eq mkI_eq ixI_eq ixP_eq bsP_eq bsI_eq lvFork_eq svFork_eq bdFork_eq lvCheckpoint_eq svCheckpoint_eq bdCheckpoint_eq lvValidator_eq svValidator_eq bdValidator_eq lvEth1_eq svEth1_eq bdEth1_eq lvHeader_eq svHeader_eq bdHeader_eq

set_option maxRecDepth 20000 in
set_option maxHeartbeats 2000000 in
theorem readCheckpoint_ok (m : Nat → Int) (ao : Option Addr) (cap : Nat) (w : World) (hb : Bys w ao 40 cap m) (hm : ∀ j, 0 ≤ m j ∧ m j < 256) (hlc : 40 ≤ cap) (hcap : cap ≤ 9223372036854775807) :
    Calls Try.prog 44 #[.slice ao 40 cap] w fun e w' => e = .returned (.tuple #[.agg (cel (sCheckpoint (pCheckpoint m))), .int .i64 0]) ∧ Below w.heap.size w w' := by
  have z := zeroCheckpoint
  obtain ⟨W1, hW1⟩ : ∃ W, w.alloc (.cells (cel (sCheckpoint oCheckpoint)) 42) = W := ⟨_, rfl⟩
  obtain ⟨W2, hW2⟩ : ∃ W, W1.alloc (.cells (vs .i64 2 zCheckpoint) 3) = W := ⟨_, rfl⟩
  have hB1 : Below w.heap.size w W1 := by rw [← hW1]; exact (Below.refl _ _).alloc (Nat.le_refl _) _
  have z1 : W1.heap.size = w.heap.size + 1 := by rw [← hW1]; simp
  have z2 : W2.heap.size = w.heap.size + 2 := by rw [← hW2]; simp [z1]
  have hB2 : Below w.heap.size w W2 := by rw [← hW2]; exact hB1.alloc (by omega) _
  have r1 : W1.heap[w.heap.size]? = some (.cells (cel (sCheckpoint oCheckpoint)) 42) := by rw [← hW1]; exact heap_new rfl
  have r2 : W2.heap[w.heap.size]? = some (.cells (cel (sCheckpoint oCheckpoint)) 42) := by rw [← hW2]; exact (heap_old (by omega)).trans r1
  have g2 : W2.heap[W1.heap.size]? = some (.cells (vs .i64 2 zCheckpoint) 3) := by rw [← hW2]; exact heap_new rfl
  have bsi := bsI_Checkpoint W1
  rw [hW2] at bsi
  have hcut := cut7_ok fixCheckpoint m ao cap W1.heap.size W2 (hb.below hB2) hm (by omega) hlc hcap g2 (by omega) zposCheckpoint (by omega)
  obtain ⟨y, ey⟩ : ∃ y, w.heap.size = y := ⟨_, rfl⟩
  obtain ⟨y1, ey1⟩ : ∃ y, W1.heap.size = y := ⟨_, rfl⟩
  rw [ey1] at bsi hcut
  have hy : y < W2.heap.size := by omega
  rw [ey] at r2
  have HCUT := hid hcut
  have R2 := hid r2
  have HB2 := hid hB2
  have HY := hid hy
  have EY := hid ey
  clear hcut r2 hB2 hy r1 g2 hB1 z1 z2 hlc hcap hb
  go_enter Try.func44, Try.ntmps44
  go_upto_region 2 with (go_at_call 36; refine HCUT.out.mono ?_; rintro e w1 ⟨gp, o, rfl, hgp, hcu, hb1⟩)
  clear hW1 hW2 ey ey1 bsi
  obtain ⟨b0, o0, c0, l0, q0⟩ := hcu 0 (by omega)
  replace l0 : w1.cell? ⟨gp, o + 0, none⟩ = some (.slice (some ⟨b0, o0, none⟩) 8 c0) := l0
  replace q0 : Bys w1 (some ⟨b0, o0, none⟩) 8 c0 (fun q => m (0 + q)) := q0
  obtain ⟨P0, eP0⟩ : ∃ P, o + 0 = P := ⟨_, rfl⟩
  rw [eP0] at l0
  have ix0 : ∀ X : World, (ixP (.slice (some ⟨gp, o, none⟩) 2 2) (.int .i64 0)).run Try.prog X = .ok (.pointer (some ⟨gp, P0, none⟩)) X := fun X => by rw [← eP0]; exact ixP_run X gp o 2 2 0 (by omega)
  obtain ⟨b1, o1, c1, l1, q1⟩ := hcu 1 (by omega)
  replace l1 : w1.cell? ⟨gp, o + 1, none⟩ = some (.slice (some ⟨b1, o1, none⟩) 32 c1) := l1
  replace q1 : Bys w1 (some ⟨b1, o1, none⟩) 32 c1 (fun q => m (8 + q)) := q1
  obtain ⟨P1, eP1⟩ : ∃ P, o + 1 = P := ⟨_, rfl⟩
  rw [eP1] at l1
  have ix1 : ∀ X : World, (ixP (.slice (some ⟨gp, o, none⟩) 2 2) (.int .i64 1)).run Try.prog X = .ok (.pointer (some ⟨gp, P1, none⟩)) X := fun X => by rw [← eP1]; exact ixP_run X gp o 2 2 1 (by omega)
  obtain ⟨N0, eN0⟩ : ∃ N, rdN (fun q => m (0 + q)) = N := ⟨_, rfl⟩
  have hn0 : ∀ X, Below w1.heap.size w1 X → Calls Try.prog 78 #[.slice (some ⟨b0, o0, none⟩) 8 c0] X fun e w' => e = .returned (.int .u64 N0) ∧ w' = X := fun X h => by
    rw [← eN0]
    exact rnum7 (some ⟨b0, o0, none⟩) c0 (fun q => m (0 + q)) X (q0.below h) (fun j _ => hm _)
  have HN0 := hid hn0
  have bd : ∀ X : World, (bdCheckpoint #[(0, .int .u64 N0)]).run Try.prog X = .ok (.agg (cel (sCheckpoint ⟨N0, fun _ => 0⟩))) X := fun X => by kernel_rfl
  have sv := svCheckpoint_newv w1 oCheckpoint ⟨N0, fun _ => 0⟩
  obtain ⟨g, eg⟩ : ∃ g, w1.heap.size = g := ⟨_, rfl⟩
  obtain ⟨V0, hV0⟩ : ∃ V, w1.alloc (.cells (cel (sCheckpoint ⟨N0, fun _ => 0⟩)) 42) = V := ⟨_, rfl⟩
  have hB0 : Below g w1 V0 := by rw [← hV0, ← eg]; exact (Below.refl _ _).alloc (Nat.le_refl _) _
  have rV0 : V0.heap[g]? = some (.cells (cel (sCheckpoint ⟨N0, fun _ => 0⟩)) 42) := by rw [← hV0]; exact heap_new eg.symm
  rw [hV0, eg] at sv
  have ez := z w1
  have EG := hid eg
  have EN0 := hid eN0
  have Q0 := hid q0
  have L0 := hid l0
  have Q1 := hid q1
  have L1 := hid l1
  have RV0 := hid rV0
  have HV0 := hid hB0
  have HB1 := hid hb1
  have HGP := hid hgp
  clear rV0 hB0 hb1 hgp hcu q0 eP0 q1 eP1 hn0 eN0
  go_upto_region 5 with (go_at_call 78; first | refine (HN0.out _ (Below.refl _ _)).mono ?_; rintro e w2 ⟨rfl, hw⟩; obtain rfl := hw.symm)
  clear bd sv ez hV0 eg z
  have hsrc1 : ∀ j, j < 32 → (V0.drew).cell? (Addr.add ⟨b1, o1, none⟩ j) = some (.int .u8 (m (8 + j))) := fun j hj => by
    obtain ⟨b', o', e', _, _, h'⟩ := bys_at (Q1.out.below (w' := V0.drew) (by rw [EG.out]; exact HV0.out.drew)) (by omega)
    cases e'
    rw [Addr.add_mid]
    exact h' j hj
  have HCP0 := hid (copy_seg V0.drew g 1 32 (sCheckpoint ⟨N0, fun _ => 0⟩) (sCheckpoint ⟨N0, fun q => m (8 + q)⟩) (fun q => m (8 + q)) ⟨b1, o1, none⟩ c1 32 42 RV0.out (by rw [slCheckpoint]; omega) hsrc1 (by kernel_rfl))
  clear hsrc1
  refine wp_region_noPanic ?_
  refine wp_region_held_drew (S := fun X => Below g w1 X) (by kernel_rfl) (HV0.out.drew) (fun hHeld => ?_)
  refine tk 0 (v := ?v11) ?y11 hHeld ?r11
  case y11 => intro w hSw; go_simp; try with_reducible rfl
  refine tk 1 (v := ?v12) ?y12 hHeld ?r12
  case y12 => intro w hSw; go_simp; try with_reducible rfl
  refine tk 2 (v := ?v13) ?y13 hHeld ?r13
  case y13 => intro w hSw; go_simp; try with_reducible rfl
  refine tk 3 (v := ?v14) ?y14 hHeld ?r14
  case y14 => intro w hSw; go_simp; try with_reducible rfl
  refine tk 4 (v := ?v15) ?y15 hHeld ?r15
  case y15 => intro w hSw; have ld := (below_cell hSw (by rw [← EG.out]; exact HGP.out)).trans L1.out; go_simp; try with_reducible rfl
  try simp only [Act.put, List.setIfInBounds_toArray, List.set_cons_zero, List.set_cons_succ, Array.toArray_toList, List.getElem_toArray, List.getElem_cons_zero, List.getElem_cons_succ]
  refine wpAnyH_ready (rs := [5]) (by kernel_rfl) (by simp) ?_
  refine AllReadyH.cons rfl (fun K hK => ?_) AllReadyH.nil
  refine step_copy_is (by rfl) _ _ 39 39 (by rfl) _ _ _ _ (by rfl) (by rfl) HCP0.out ?_
  refine hK.out _ _ (below_row HV0.out.drew (Nat.le_refl _) _) (fun hHeld => ?_)
  clear hK K
  try simp only [Act.put, List.setIfInBounds_toArray, List.set_cons_zero, List.set_cons_succ, Array.toArray_toList, List.getElem_toArray, List.getElem_cons_zero, List.getElem_cons_succ]
  refine wpAnyH_done (by kernel_rfl) ?_ _
  refine NoPanic.normal ?_
  obtain ⟨V1, hV1⟩ : ∃ V, (V0.drew).setRow g (cel (sCheckpoint ⟨N0, fun q => m (8 + q)⟩)) = V := ⟨_, rfl⟩
  have RV1 : Hid (V1.heap[g]? = some (.cells (cel (sCheckpoint ⟨N0, fun q => m (8 + q)⟩)) 42)) := by rw [← hV1]; exact setRow_at (w := V0.drew) RV0.out
  have HV1 : Hid (Below g w1 V1) := by rw [← hV1]; exact below_row HV0.out.drew (Nat.le_refl _) _
  rw [hV1]
  clear hV1
  obtain ⟨vv, ev⟩ : ∃ v : VCheckpoint, ⟨N0, fun q => m (8 + q)⟩ = v := ⟨_, rfl⟩
  have rv := RV1.out
  rw [ev] at rv
  have rr : V1.heap[y]? = some (.cells (cel (sCheckpoint oCheckpoint)) 42) := (HV1.out.block _ (by rw [← EG.out]; exact Nat.lt_of_lt_of_le HY.out HB1.out.size)).trans ((HB1.out.block _ HY.out).trans R2.out)
  have sv := svCheckpoint_run rr vv
  have lv := lvCheckpoint_mid (x := vv) rv 0 (take_all _) rfl
  have RR := hid rr
  have EV := hid ev
  clear rr rv ev
  go_wp2
  refine retCheckpoint _ _ y vv 42 _ rfl rfl rfl rfl (setRow_at RR.out) ⟨?_, ?_⟩
  · rw [← EV.out, ← EN0.out]
    rfl
  have e0 := EY.out
  have e1 := HB2.out.size
  have e2 := HB1.out.size
  have e3 := EG.out
  exact below_row (HB2.out.trans ((HB1.out.mono (by omega)).trans (HV1.out.mono (by omega)))) (by omega) _

end Go.Proofs.Ytehpfemlcjcabaa
