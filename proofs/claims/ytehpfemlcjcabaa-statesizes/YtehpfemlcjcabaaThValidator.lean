/-
  What Read answers.
-/

import Derived.Test.YtehpfemlcjcabaaCoA
import Derived.Test.YtehpfemlcjcabaaCoB
namespace Go.Proofs.Ytehpfemlcjcabaa

open Go.RowKit

set_option linter.unusedVariables false

set_option linter.unusedSimpArgs false

attribute [local go_sem ↓] sv24_eq lv24_eq ix22_eq slr_eq bd27_eq bs22_eq sv8_eq mkI_eq ixI_eq ixP_eq bsP_eq bsI_eq lvFork_eq svFork_eq bdFork_eq lvCheckpoint_eq svCheckpoint_eq bdCheckpoint_eq lvValidator_eq svValidator_eq bdValidator_eq lvEth1_eq svEth1_eq bdEth1_eq lvHeader_eq svHeader_eq bdHeader_eq

end Go.Proofs.Ytehpfemlcjcabaa

namespace Go.Proofs.Ytehpfemlcjcabaa

open Go.RowKit

set_option linter.unusedVariables false

set_option linter.unusedSimpArgs false

attribute [local go_sem ↓] sv24_eq lv24_eq ix22_eq slr_eq bd27_eq bs22_eq sv8_eq mkI_eq ixI_eq ixP_eq bsP_eq bsI_eq lvCheckpoint_eq svCheckpoint_eq bdCheckpoint_eq lvValidator_eq svValidator_eq bdValidator_eq lvHeader_eq svHeader_eq bdHeader_eq

set_option maxRecDepth 20000 in
set_option maxHeartbeats 8000000 in
theorem readValidator_ok (m : Nat → Int) (ao : Option Addr) (cap : Nat) (w : World) (hb : Bys w ao 121 cap m) (hm : ∀ j, 0 ≤ m j ∧ m j < 256) (hlc : 121 ≤ cap) (hcap : cap ≤ 9223372036854775807) (hfl : ¬ 1 < m 88) :
    Calls Try.prog 74 #[.slice ao 121 cap] w fun e w' => e = .returned (.tuple #[.agg (cel (sValidator (pValidator m))), .int .i64 0]) ∧ Below w.heap.size w w' := by
  have z := zeroValidator
  obtain ⟨W1, hW1⟩ : ∃ W, w.alloc (.cells (cel (sValidator oValidator)) 64) = W := ⟨_, rfl⟩
  obtain ⟨W2, hW2⟩ : ∃ W, W1.alloc (.cells (vs .i64 8 zValidator) 3) = W := ⟨_, rfl⟩
  have hB1 : Below w.heap.size w W1 := by rw [← hW1]; exact (Below.refl _ _).alloc (Nat.le_refl _) _
  have z1 : W1.heap.size = w.heap.size + 1 := by rw [← hW1]; simp
  have z2 : W2.heap.size = w.heap.size + 2 := by rw [← hW2]; simp [z1]
  have hB2 : Below w.heap.size w W2 := by rw [← hW2]; exact hB1.alloc (by omega) _
  have r1 : W1.heap[w.heap.size]? = some (.cells (cel (sValidator oValidator)) 64) := by rw [← hW1]; exact heap_new rfl
  have r2 : W2.heap[w.heap.size]? = some (.cells (cel (sValidator oValidator)) 64) := by rw [← hW2]; exact (heap_old (by omega)).trans r1
  have g2 : W2.heap[W1.heap.size]? = some (.cells (vs .i64 8 zValidator) 3) := by rw [← hW2]; exact heap_new rfl
  have bsi := bsI_Validator W1
  rw [hW2] at bsi
  have hcut := cut7_ok fixValidator m ao cap W1.heap.size W2 (hb.below hB2) hm (by omega) hlc hcap g2 (by omega) zposValidator (by omega)
  obtain ⟨y, ey⟩ : ∃ y, w.heap.size = y := ⟨_, rfl⟩
  obtain ⟨y1, ey1⟩ : ∃ y, W1.heap.size = y := ⟨_, rfl⟩
  rw [ey1] at bsi hcut
  have hy : y < W2.heap.size := by omega
  rw [ey] at r2
  have HCUT := hid hcut
  have R2 := hid r2
  have HB2 := hid hB2
  have HY := hid hy
  have EY := hid ey
  clear hcut r2 hB2 hy r1 g2 hB1 z1 z2 hlc hcap hb
  have HFL := hid hfl
  clear hfl
  go_enter Try.func74, Try.ntmps74
  go_upto_region 2 with (go_at_call 36; refine HCUT.out.mono ?_; rintro e w1 ⟨gp, o, rfl, hgp, hcu, hb1⟩)
  clear hW1 hW2 ey ey1 bsi
  obtain ⟨b0, o0, c0, l0, q0⟩ := hcu 0 (by omega)
  replace l0 : w1.cell? ⟨gp, o + 0, none⟩ = some (.slice (some ⟨b0, o0, none⟩) 48 c0) := l0
  replace q0 : Bys w1 (some ⟨b0, o0, none⟩) 48 c0 (fun q => m (0 + q)) := q0
  obtain ⟨P0, eP0⟩ : ∃ P, o + 0 = P := ⟨_, rfl⟩
  rw [eP0] at l0
  have ix0 : ∀ X : World, (ixP (.slice (some ⟨gp, o, none⟩) 8 8) (.int .i64 0)).run Try.prog X = .ok (.pointer (some ⟨gp, P0, none⟩)) X := fun X => by rw [← eP0]; exact ixP_run X gp o 8 8 0 (by omega)
  obtain ⟨b1, o1, c1, l1, q1⟩ := hcu 1 (by omega)
  replace l1 : w1.cell? ⟨gp, o + 1, none⟩ = some (.slice (some ⟨b1, o1, none⟩) 32 c1) := l1
  replace q1 : Bys w1 (some ⟨b1, o1, none⟩) 32 c1 (fun q => m (48 + q)) := q1
  obtain ⟨P1, eP1⟩ : ∃ P, o + 1 = P := ⟨_, rfl⟩
  rw [eP1] at l1
  have ix1 : ∀ X : World, (ixP (.slice (some ⟨gp, o, none⟩) 8 8) (.int .i64 1)).run Try.prog X = .ok (.pointer (some ⟨gp, P1, none⟩)) X := fun X => by rw [← eP1]; exact ixP_run X gp o 8 8 1 (by omega)
  obtain ⟨b2, o2, c2, l2, q2⟩ := hcu 2 (by omega)
  replace l2 : w1.cell? ⟨gp, o + 2, none⟩ = some (.slice (some ⟨b2, o2, none⟩) 8 c2) := l2
  replace q2 : Bys w1 (some ⟨b2, o2, none⟩) 8 c2 (fun q => m (80 + q)) := q2
  obtain ⟨P2, eP2⟩ : ∃ P, o + 2 = P := ⟨_, rfl⟩
  rw [eP2] at l2
  have ix2 : ∀ X : World, (ixP (.slice (some ⟨gp, o, none⟩) 8 8) (.int .i64 2)).run Try.prog X = .ok (.pointer (some ⟨gp, P2, none⟩)) X := fun X => by rw [← eP2]; exact ixP_run X gp o 8 8 2 (by omega)
  obtain ⟨b3, o3, c3, l3, q3⟩ := hcu 3 (by omega)
  replace l3 : w1.cell? ⟨gp, o + 3, none⟩ = some (.slice (some ⟨b3, o3, none⟩) 1 c3) := l3
  replace q3 : Bys w1 (some ⟨b3, o3, none⟩) 1 c3 (fun q => m (88 + q)) := q3
  obtain ⟨P3, eP3⟩ : ∃ P, o + 3 = P := ⟨_, rfl⟩
  rw [eP3] at l3
  have ix3 : ∀ X : World, (ixP (.slice (some ⟨gp, o, none⟩) 8 8) (.int .i64 3)).run Try.prog X = .ok (.pointer (some ⟨gp, P3, none⟩)) X := fun X => by rw [← eP3]; exact ixP_run X gp o 8 8 3 (by omega)
  obtain ⟨b4, o4, c4, l4, q4⟩ := hcu 4 (by omega)
  replace l4 : w1.cell? ⟨gp, o + 4, none⟩ = some (.slice (some ⟨b4, o4, none⟩) 8 c4) := l4
  replace q4 : Bys w1 (some ⟨b4, o4, none⟩) 8 c4 (fun q => m (89 + q)) := q4
  obtain ⟨P4, eP4⟩ : ∃ P, o + 4 = P := ⟨_, rfl⟩
  rw [eP4] at l4
  have ix4 : ∀ X : World, (ixP (.slice (some ⟨gp, o, none⟩) 8 8) (.int .i64 4)).run Try.prog X = .ok (.pointer (some ⟨gp, P4, none⟩)) X := fun X => by rw [← eP4]; exact ixP_run X gp o 8 8 4 (by omega)
  obtain ⟨b5, o5, c5, l5, q5⟩ := hcu 5 (by omega)
  replace l5 : w1.cell? ⟨gp, o + 5, none⟩ = some (.slice (some ⟨b5, o5, none⟩) 8 c5) := l5
  replace q5 : Bys w1 (some ⟨b5, o5, none⟩) 8 c5 (fun q => m (97 + q)) := q5
  obtain ⟨P5, eP5⟩ : ∃ P, o + 5 = P := ⟨_, rfl⟩
  rw [eP5] at l5
  have ix5 : ∀ X : World, (ixP (.slice (some ⟨gp, o, none⟩) 8 8) (.int .i64 5)).run Try.prog X = .ok (.pointer (some ⟨gp, P5, none⟩)) X := fun X => by rw [← eP5]; exact ixP_run X gp o 8 8 5 (by omega)
  obtain ⟨b6, o6, c6, l6, q6⟩ := hcu 6 (by omega)
  replace l6 : w1.cell? ⟨gp, o + 6, none⟩ = some (.slice (some ⟨b6, o6, none⟩) 8 c6) := l6
  replace q6 : Bys w1 (some ⟨b6, o6, none⟩) 8 c6 (fun q => m (105 + q)) := q6
  obtain ⟨P6, eP6⟩ : ∃ P, o + 6 = P := ⟨_, rfl⟩
  rw [eP6] at l6
  have ix6 : ∀ X : World, (ixP (.slice (some ⟨gp, o, none⟩) 8 8) (.int .i64 6)).run Try.prog X = .ok (.pointer (some ⟨gp, P6, none⟩)) X := fun X => by rw [← eP6]; exact ixP_run X gp o 8 8 6 (by omega)
  obtain ⟨b7, o7, c7, l7, q7⟩ := hcu 7 (by omega)
  replace l7 : w1.cell? ⟨gp, o + 7, none⟩ = some (.slice (some ⟨b7, o7, none⟩) 8 c7) := l7
  replace q7 : Bys w1 (some ⟨b7, o7, none⟩) 8 c7 (fun q => m (113 + q)) := q7
  obtain ⟨P7, eP7⟩ : ∃ P, o + 7 = P := ⟨_, rfl⟩
  rw [eP7] at l7
  have ix7 : ∀ X : World, (ixP (.slice (some ⟨gp, o, none⟩) 8 8) (.int .i64 7)).run Try.prog X = .ok (.pointer (some ⟨gp, P7, none⟩)) X := fun X => by rw [← eP7]; exact ixP_run X gp o 8 8 7 (by omega)
  obtain ⟨N2, eN2⟩ : ∃ N, rdN (fun q => m (80 + q)) = N := ⟨_, rfl⟩
  have hn2 : ∀ X, Below w1.heap.size w1 X → Calls Try.prog 78 #[.slice (some ⟨b2, o2, none⟩) 8 c2] X fun e w' => e = .returned (.int .u64 N2) ∧ w' = X := fun X h => by
    rw [← eN2]
    exact rnum7 (some ⟨b2, o2, none⟩) c2 (fun q => m (80 + q)) X (q2.below h) (fun j _ => hm _)
  have HN2 := hid hn2
  obtain ⟨N4, eN4⟩ : ∃ N, rdN (fun q => m (89 + q)) = N := ⟨_, rfl⟩
  have hn4 : ∀ X, Below w1.heap.size w1 X → Calls Try.prog 78 #[.slice (some ⟨b4, o4, none⟩) 8 c4] X fun e w' => e = .returned (.int .u64 N4) ∧ w' = X := fun X h => by
    rw [← eN4]
    exact rnum7 (some ⟨b4, o4, none⟩) c4 (fun q => m (89 + q)) X (q4.below h) (fun j _ => hm _)
  have HN4 := hid hn4
  obtain ⟨N5, eN5⟩ : ∃ N, rdN (fun q => m (97 + q)) = N := ⟨_, rfl⟩
  have hn5 : ∀ X, Below w1.heap.size w1 X → Calls Try.prog 78 #[.slice (some ⟨b5, o5, none⟩) 8 c5] X fun e w' => e = .returned (.int .u64 N5) ∧ w' = X := fun X h => by
    rw [← eN5]
    exact rnum7 (some ⟨b5, o5, none⟩) c5 (fun q => m (97 + q)) X (q5.below h) (fun j _ => hm _)
  have HN5 := hid hn5
  obtain ⟨N6, eN6⟩ : ∃ N, rdN (fun q => m (105 + q)) = N := ⟨_, rfl⟩
  have hn6 : ∀ X, Below w1.heap.size w1 X → Calls Try.prog 78 #[.slice (some ⟨b6, o6, none⟩) 8 c6] X fun e w' => e = .returned (.int .u64 N6) ∧ w' = X := fun X h => by
    rw [← eN6]
    exact rnum7 (some ⟨b6, o6, none⟩) c6 (fun q => m (105 + q)) X (q6.below h) (fun j _ => hm _)
  have HN6 := hid hn6
  obtain ⟨N7, eN7⟩ : ∃ N, rdN (fun q => m (113 + q)) = N := ⟨_, rfl⟩
  have hn7 : ∀ X, Below w1.heap.size w1 X → Calls Try.prog 78 #[.slice (some ⟨b7, o7, none⟩) 8 c7] X fun e w' => e = .returned (.int .u64 N7) ∧ w' = X := fun X h => by
    rw [← eN7]
    exact rnum7 (some ⟨b7, o7, none⟩) c7 (fun q => m (113 + q)) X (q7.below h) (fun j _ => hm _)
  have HN7 := hid hn7
  obtain ⟨N3, eN3⟩ : ∃ N, (m 88 == 1) = N := ⟨_, rfl⟩
  have hn3 : ∀ X, Below w1.heap.size w1 X → Calls Try.prog 93 #[.slice (some ⟨b3, o3, none⟩) 1 c3] X fun e w' => e = .returned (.tuple #[.bool N3, .int .i64 0]) ∧ w' = X := fun X h => by
    obtain ⟨b', o', e', h1, h2, h3⟩ := bys_at (q3.below h) (by omega)
    cases e'
    have hc := h3 0 (by omega)
    rw [Nat.add_zero] at hc
    rw [← eN3]
    exact Z.bool_one b3 o3 c3 _ X hc (by have := HFL.out; omega) (hm _).1
  have HN3 := hid hn3
  have EN2 := hid eN2
  have EN4 := hid eN4
  have EN5 := hid eN5
  have EN6 := hid eN6
  have EN7 := hid eN7
  have EN3 := hid eN3
  have Q0 := hid q0
  have L0 := hid l0
  have Q1 := hid q1
  have L1 := hid l1
  have Q2 := hid q2
  have L2 := hid l2
  have Q3 := hid q3
  have L3 := hid l3
  have Q4 := hid q4
  have L4 := hid l4
  have Q5 := hid q5
  have L5 := hid l5
  have Q6 := hid q6
  have L6 := hid l6
  have Q7 := hid q7
  have L7 := hid l7
  have HB1 := hid hb1
  have HGP := hid hgp
  clear q0 eP0 q1 eP1 q2 eP2 q3 eP3 q4 eP4 q5 eP5 q6 eP6 q7 eP7 hn2 eN2 hn4 eN4 hn5 eN5 hn6 eN6 hn7 eN7 hn3 eN3 hb1 hgp hcu
  go_upto_region 7 with (go_at_call 93; refine (HN3.out _ (Below.refl _ _)).mono ?_; rintro e w2 ⟨rfl, hw⟩; obtain rfl := hw.symm)
  have bd : ∀ X : World, (bdValidator #[(2, .int .u64 N2), (3, .bool N3), (4, .int .u64 N4), (5, .int .u64 N5), (6, .int .u64 N6), (7, .int .u64 N7)]).run Try.prog X = .ok (.agg (cel (sValidator ⟨fun _ => 0, fun _ => 0, N2, N3, N4, N5, N6, N7⟩))) X := fun X => by kernel_rfl
  obtain ⟨g, eg⟩ : ∃ g, w1.heap.size = g := ⟨_, rfl⟩
  obtain ⟨wd, hwd⟩ : ∃ X, w1.drew = X := ⟨_, rfl⟩
  have egd : wd.heap.size = g := by rw [← hwd]; exact eg
  have hwe : Below g w1 wd := by rw [← hwd]; exact (Below.refl _ _).drew
  have HWD : Hid (Below g w1 w1.drew) := (Below.refl _ _).drew
  have hal : Below g w1 (wd.alloc (.cells (cel (sValidator oValidator)) 64)) := hwe.alloc (by rw [egd]; exact Nat.le_refl _) _
  have sv := svValidator_newv wd oValidator ⟨fun _ => 0, fun _ => 0, N2, N3, N4, N5, N6, N7⟩
  obtain ⟨V0, hV0⟩ : ∃ V, wd.alloc (.cells (cel (sValidator ⟨fun _ => 0, fun _ => 0, N2, N3, N4, N5, N6, N7⟩)) 64) = V := ⟨_, rfl⟩
  have hB0 : Below g w1 V0 := by rw [← hV0]; exact hwe.alloc (by rw [egd]; exact Nat.le_refl _) _
  have rV0 : V0.heap[g]? = some (.cells (cel (sValidator ⟨fun _ => 0, fun _ => 0, N2, N3, N4, N5, N6, N7⟩)) 64) := by rw [← hV0]; exact heap_new egd.symm
  rw [hV0, egd] at sv
  have EG := hid eg
  have HWE := hid hwe
  have HAL := hid hal
  have RV0 := hid rV0
  have HV0 := hid hB0
  clear rV0 hB0
  clear hwe hal eg
  refine wp_region_noPanic ?_
  refine wp_region_held_drew (S := fun X => Below g w1 X) (by kernel_rfl) (HWD.out) (fun hHeld => ?_)
  rw [hwd] at hHeld ⊢
  clear hwd
  refine tk 0 (v := ?v89) ?y89 hHeld ?r89
  case y89 => intro w hSw; go_simp; try with_reducible rfl
  refine tk 1 (v := ?v90) ?y90 hHeld ?r90
  case y90 => intro w hSw; go_simp; try with_reducible rfl
  refine tk 2 (v := ?v91) ?y91 hHeld ?r91
  case y91 => intro w hSw; have ld := (below_cell hSw (by rw [← EG.out]; exact HGP.out)).trans L2.out; go_simp; try with_reducible rfl
  refine tk 4 (v := ?v92) ?y92 hHeld ?r92
  case y92 => intro w hSw; go_simp; try with_reducible rfl
  refine tk 5 (v := ?v93) ?y93 hHeld ?r93
  case y93 => intro w hSw; go_simp; try with_reducible rfl
  refine tk 6 (v := ?v94) ?y94 hHeld ?r94
  case y94 => intro w hSw; go_simp; try with_reducible rfl
  refine tk 7 (v := ?v95) ?y95 hHeld ?r95
  case y95 => intro w hSw; have ld := (below_cell hSw (by rw [← EG.out]; exact HGP.out)).trans L4.out; go_simp; try with_reducible rfl
  refine tk 9 (v := ?v96) ?y96 hHeld ?r96
  case y96 => intro w hSw; go_simp; try with_reducible rfl
  refine tk 10 (v := ?v97) ?y97 hHeld ?r97
  case y97 => intro w hSw; go_simp; try with_reducible rfl
  refine tk 11 (v := ?v98) ?y98 hHeld ?r98
  case y98 => intro w hSw; have ld := (below_cell hSw (by rw [← EG.out]; exact HGP.out)).trans L5.out; go_simp; try with_reducible rfl
  refine tk 13 (v := ?v99) ?y99 hHeld ?r99
  case y99 => intro w hSw; go_simp; try with_reducible rfl
  refine tk 14 (v := ?v100) ?y100 hHeld ?r100
  case y100 => intro w hSw; go_simp; try with_reducible rfl
  refine tk 15 (v := ?v101) ?y101 hHeld ?r101
  case y101 => intro w hSw; have ld := (below_cell hSw (by rw [← EG.out]; exact HGP.out)).trans L6.out; go_simp; try with_reducible rfl
  refine tk 17 (v := ?v102) ?y102 hHeld ?r102
  case y102 => intro w hSw; go_simp; try with_reducible rfl
  refine tk 18 (v := ?v103) ?y103 hHeld ?r103
  case y103 => intro w hSw; go_simp; try with_reducible rfl
  refine tk 19 (v := ?v104) ?y104 hHeld ?r104
  case y104 => intro w hSw; have ld := (below_cell hSw (by rw [← EG.out]; exact HGP.out)).trans L7.out; go_simp; try with_reducible rfl
  try simp only [Act.put, List.setIfInBounds_toArray, List.set_cons_zero, List.set_cons_succ, Array.toArray_toList, List.getElem_toArray, List.getElem_cons_zero, List.getElem_cons_succ]
  refine share V0 (act := ?act) (fun KT => ?main) ?tail
  case main =>
    refine wpAnyH_ready (rs := [3, 22]) (by kernel_rfl) (by simp) ?_
    refine AllReadyH.cons rfl (fun K hK => ?_) (AllReadyH.cons rfl (fun K hK => ?_) AllReadyH.nil)
    · go_simp
      refine (HN2.out _ (by rw [EG.out]; exact HWE.out)).mono ?_
      rintro e w2 ⟨rfl, rfl⟩
      dsimp only
      refine hK.out _ _ HWE.out (fun hHeld => ?_)
      clear hK K
      try simp only [Act.put, List.setIfInBounds_toArray, List.set_cons_zero, List.set_cons_succ, Array.toArray_toList, List.getElem_toArray, List.getElem_cons_zero, List.getElem_cons_succ]
      refine wpAnyH_ready (rs := [8, 22]) (by kernel_rfl) (by simp) ?_
      refine AllReadyH.cons rfl (fun K hK => ?_) (AllReadyH.cons rfl (fun K hK => ?_) AllReadyH.nil)
      · go_simp
        refine (HN4.out _ (by rw [EG.out]; exact HWE.out)).mono ?_
        rintro e w2 ⟨rfl, rfl⟩
        dsimp only
        refine hK.out _ _ HWE.out (fun hHeld => ?_)
        clear hK K
        try simp only [Act.put, List.setIfInBounds_toArray, List.set_cons_zero, List.set_cons_succ, Array.toArray_toList, List.getElem_toArray, List.getElem_cons_zero, List.getElem_cons_succ]
        refine wpAnyH_ready (rs := [12, 22]) (by kernel_rfl) (by simp) ?_
        refine AllReadyH.cons rfl (fun K hK => ?_) (AllReadyH.cons rfl (fun K hK => ?_) AllReadyH.nil)
        · go_simp
          refine (HN5.out _ (by rw [EG.out]; exact HWE.out)).mono ?_
          rintro e w2 ⟨rfl, rfl⟩
          dsimp only
          refine hK.out _ _ HWE.out (fun hHeld => ?_)
          clear hK K
          try simp only [Act.put, List.setIfInBounds_toArray, List.set_cons_zero, List.set_cons_succ, Array.toArray_toList, List.getElem_toArray, List.getElem_cons_zero, List.getElem_cons_succ]
          refine wpAnyH_ready (rs := [16, 22]) (by kernel_rfl) (by simp) ?_
          refine AllReadyH.cons rfl (fun K hK => ?_) (AllReadyH.cons rfl (fun K hK => ?_) AllReadyH.nil)
          · go_simp
            refine (HN6.out _ (by rw [EG.out]; exact HWE.out)).mono ?_
            rintro e w2 ⟨rfl, rfl⟩
            dsimp only
            refine hK.out _ _ HWE.out (fun hHeld => ?_)
            clear hK K
            try simp only [Act.put, List.setIfInBounds_toArray, List.set_cons_zero, List.set_cons_succ, Array.toArray_toList, List.getElem_toArray, List.getElem_cons_zero, List.getElem_cons_succ]
            refine wpAnyH_ready (rs := [20, 22]) (by kernel_rfl) (by simp) ?_
            refine AllReadyH.cons rfl (fun K hK => ?_) (AllReadyH.cons rfl (fun K hK => ?_) AllReadyH.nil)
            · go_simp
              refine (HN7.out _ (by rw [EG.out]; exact HWE.out)).mono ?_
              rintro e w2 ⟨rfl, rfl⟩
              dsimp only
              refine hK.out _ _ HWE.out (fun hHeld => ?_)
              clear hK K
              try simp only [Act.put, List.setIfInBounds_toArray, List.set_cons_zero, List.set_cons_succ, Array.toArray_toList, List.getElem_toArray, List.getElem_cons_zero, List.getElem_cons_succ]
              refine tk 21 (v := ?v105) ?y105 hHeld ?r105
              case y105 => intro w hSw; go_simp; try with_reducible rfl
              try simp only [Act.put, List.setIfInBounds_toArray, List.set_cons_zero, List.set_cons_succ, Array.toArray_toList, List.getElem_toArray, List.getElem_cons_zero, List.getElem_cons_succ]
              refine wpAnyH_ready (rs := [22]) (by kernel_rfl) (by simp) ?_
              refine AllReadyH.cons rfl (fun K hK => ?_) AllReadyH.nil
              go_simp
              refine hK.out _ _ HAL.out (fun hHeld => ?_)
              clear hK K
              try simp only [Act.put, List.setIfInBounds_toArray, List.set_cons_zero, List.set_cons_succ, Array.toArray_toList, List.getElem_toArray, List.getElem_cons_zero, List.getElem_cons_succ]
              refine wpAnyH_ready (rs := [23]) (by kernel_rfl) (by simp) ?_
              refine AllReadyH.cons rfl (fun K hK => ?_) AllReadyH.nil
              go_simp
              refine hK.out _ _ HV0.out (fun hHeld => ?_)
              clear hK K
              try simp only [Act.put, List.setIfInBounds_toArray, List.set_cons_zero, List.set_cons_succ, Array.toArray_toList, List.getElem_toArray, List.getElem_cons_zero, List.getElem_cons_succ]
              exact wpAnyH_done (by kernel_rfl) KT _
            · go_simp
              refine hK.out _ _ HAL.out (fun hHeld => ?_)
              clear hK K
              try simp only [Act.put, List.setIfInBounds_toArray, List.set_cons_zero, List.set_cons_succ, Array.toArray_toList, List.getElem_toArray, List.getElem_cons_zero, List.getElem_cons_succ]
              refine wpAnyH_ready (rs := [20]) (by kernel_rfl) (by simp) ?_
              refine AllReadyH.cons rfl (fun K hK => ?_) AllReadyH.nil
              go_simp
              refine (HN7.out _ (by rw [EG.out]; exact HAL.out)).mono ?_
              rintro e w2 ⟨rfl, rfl⟩
              dsimp only
              refine hK.out _ _ HAL.out (fun hHeld => ?_)
              clear hK K
              try simp only [Act.put, List.setIfInBounds_toArray, List.set_cons_zero, List.set_cons_succ, Array.toArray_toList, List.getElem_toArray, List.getElem_cons_zero, List.getElem_cons_succ]
              refine tk 21 (v := ?v106) ?y106 hHeld ?r106
              case y106 => intro w hSw; go_simp; try with_reducible rfl
              try simp only [Act.put, List.setIfInBounds_toArray, List.set_cons_zero, List.set_cons_succ, Array.toArray_toList, List.getElem_toArray, List.getElem_cons_zero, List.getElem_cons_succ]
              refine wpAnyH_ready (rs := [23]) (by kernel_rfl) (by simp) ?_
              refine AllReadyH.cons rfl (fun K hK => ?_) AllReadyH.nil
              go_simp
              refine hK.out _ _ HV0.out (fun hHeld => ?_)
              clear hK K
              try simp only [Act.put, List.setIfInBounds_toArray, List.set_cons_zero, List.set_cons_succ, Array.toArray_toList, List.getElem_toArray, List.getElem_cons_zero, List.getElem_cons_succ]
              exact wpAnyH_done (by kernel_rfl) KT _
          · go_simp
            refine hK.out _ _ HAL.out (fun hHeld => ?_)
            clear hK K
            try simp only [Act.put, List.setIfInBounds_toArray, List.set_cons_zero, List.set_cons_succ, Array.toArray_toList, List.getElem_toArray, List.getElem_cons_zero, List.getElem_cons_succ]
            refine wpAnyH_ready (rs := [16]) (by kernel_rfl) (by simp) ?_
            refine AllReadyH.cons rfl (fun K hK => ?_) AllReadyH.nil
            go_simp
            refine (HN6.out _ (by rw [EG.out]; exact HAL.out)).mono ?_
            rintro e w2 ⟨rfl, rfl⟩
            dsimp only
            refine hK.out _ _ HAL.out (fun hHeld => ?_)
            clear hK K
            try simp only [Act.put, List.setIfInBounds_toArray, List.set_cons_zero, List.set_cons_succ, Array.toArray_toList, List.getElem_toArray, List.getElem_cons_zero, List.getElem_cons_succ]
            refine wpAnyH_ready (rs := [20]) (by kernel_rfl) (by simp) ?_
            refine AllReadyH.cons rfl (fun K hK => ?_) AllReadyH.nil
            go_simp
            refine (HN7.out _ (by rw [EG.out]; exact HAL.out)).mono ?_
            rintro e w2 ⟨rfl, rfl⟩
            dsimp only
            refine hK.out _ _ HAL.out (fun hHeld => ?_)
            clear hK K
            try simp only [Act.put, List.setIfInBounds_toArray, List.set_cons_zero, List.set_cons_succ, Array.toArray_toList, List.getElem_toArray, List.getElem_cons_zero, List.getElem_cons_succ]
            refine tk 21 (v := ?v107) ?y107 hHeld ?r107
            case y107 => intro w hSw; go_simp; try with_reducible rfl
            try simp only [Act.put, List.setIfInBounds_toArray, List.set_cons_zero, List.set_cons_succ, Array.toArray_toList, List.getElem_toArray, List.getElem_cons_zero, List.getElem_cons_succ]
            refine wpAnyH_ready (rs := [23]) (by kernel_rfl) (by simp) ?_
            refine AllReadyH.cons rfl (fun K hK => ?_) AllReadyH.nil
            go_simp
            refine hK.out _ _ HV0.out (fun hHeld => ?_)
            clear hK K
            try simp only [Act.put, List.setIfInBounds_toArray, List.set_cons_zero, List.set_cons_succ, Array.toArray_toList, List.getElem_toArray, List.getElem_cons_zero, List.getElem_cons_succ]
            exact wpAnyH_done (by kernel_rfl) KT _
        · go_simp
          refine hK.out _ _ HAL.out (fun hHeld => ?_)
          clear hK K
          try simp only [Act.put, List.setIfInBounds_toArray, List.set_cons_zero, List.set_cons_succ, Array.toArray_toList, List.getElem_toArray, List.getElem_cons_zero, List.getElem_cons_succ]
          refine wpAnyH_ready (rs := [12]) (by kernel_rfl) (by simp) ?_
          refine AllReadyH.cons rfl (fun K hK => ?_) AllReadyH.nil
          go_simp
          refine (HN5.out _ (by rw [EG.out]; exact HAL.out)).mono ?_
          rintro e w2 ⟨rfl, rfl⟩
          dsimp only
          refine hK.out _ _ HAL.out (fun hHeld => ?_)
          clear hK K
          try simp only [Act.put, List.setIfInBounds_toArray, List.set_cons_zero, List.set_cons_succ, Array.toArray_toList, List.getElem_toArray, List.getElem_cons_zero, List.getElem_cons_succ]
          refine wpAnyH_ready (rs := [16]) (by kernel_rfl) (by simp) ?_
          refine AllReadyH.cons rfl (fun K hK => ?_) AllReadyH.nil
          go_simp
          refine (HN6.out _ (by rw [EG.out]; exact HAL.out)).mono ?_
          rintro e w2 ⟨rfl, rfl⟩
          dsimp only
          refine hK.out _ _ HAL.out (fun hHeld => ?_)
          clear hK K
          try simp only [Act.put, List.setIfInBounds_toArray, List.set_cons_zero, List.set_cons_succ, Array.toArray_toList, List.getElem_toArray, List.getElem_cons_zero, List.getElem_cons_succ]
          refine wpAnyH_ready (rs := [20]) (by kernel_rfl) (by simp) ?_
          refine AllReadyH.cons rfl (fun K hK => ?_) AllReadyH.nil
          go_simp
          refine (HN7.out _ (by rw [EG.out]; exact HAL.out)).mono ?_
          rintro e w2 ⟨rfl, rfl⟩
          dsimp only
          refine hK.out _ _ HAL.out (fun hHeld => ?_)
          clear hK K
          try simp only [Act.put, List.setIfInBounds_toArray, List.set_cons_zero, List.set_cons_succ, Array.toArray_toList, List.getElem_toArray, List.getElem_cons_zero, List.getElem_cons_succ]
          refine tk 21 (v := ?v108) ?y108 hHeld ?r108
          case y108 => intro w hSw; go_simp; try with_reducible rfl
          try simp only [Act.put, List.setIfInBounds_toArray, List.set_cons_zero, List.set_cons_succ, Array.toArray_toList, List.getElem_toArray, List.getElem_cons_zero, List.getElem_cons_succ]
          refine wpAnyH_ready (rs := [23]) (by kernel_rfl) (by simp) ?_
          refine AllReadyH.cons rfl (fun K hK => ?_) AllReadyH.nil
          go_simp
          refine hK.out _ _ HV0.out (fun hHeld => ?_)
          clear hK K
          try simp only [Act.put, List.setIfInBounds_toArray, List.set_cons_zero, List.set_cons_succ, Array.toArray_toList, List.getElem_toArray, List.getElem_cons_zero, List.getElem_cons_succ]
          exact wpAnyH_done (by kernel_rfl) KT _
      · go_simp
        refine hK.out _ _ HAL.out (fun hHeld => ?_)
        clear hK K
        try simp only [Act.put, List.setIfInBounds_toArray, List.set_cons_zero, List.set_cons_succ, Array.toArray_toList, List.getElem_toArray, List.getElem_cons_zero, List.getElem_cons_succ]
        refine wpAnyH_ready (rs := [8]) (by kernel_rfl) (by simp) ?_
        refine AllReadyH.cons rfl (fun K hK => ?_) AllReadyH.nil
        go_simp
        refine (HN4.out _ (by rw [EG.out]; exact HAL.out)).mono ?_
        rintro e w2 ⟨rfl, rfl⟩
        dsimp only
        refine hK.out _ _ HAL.out (fun hHeld => ?_)
        clear hK K
        try simp only [Act.put, List.setIfInBounds_toArray, List.set_cons_zero, List.set_cons_succ, Array.toArray_toList, List.getElem_toArray, List.getElem_cons_zero, List.getElem_cons_succ]
        refine wpAnyH_ready (rs := [12]) (by kernel_rfl) (by simp) ?_
        refine AllReadyH.cons rfl (fun K hK => ?_) AllReadyH.nil
        go_simp
        refine (HN5.out _ (by rw [EG.out]; exact HAL.out)).mono ?_
        rintro e w2 ⟨rfl, rfl⟩
        dsimp only
        refine hK.out _ _ HAL.out (fun hHeld => ?_)
        clear hK K
        try simp only [Act.put, List.setIfInBounds_toArray, List.set_cons_zero, List.set_cons_succ, Array.toArray_toList, List.getElem_toArray, List.getElem_cons_zero, List.getElem_cons_succ]
        refine wpAnyH_ready (rs := [16]) (by kernel_rfl) (by simp) ?_
        refine AllReadyH.cons rfl (fun K hK => ?_) AllReadyH.nil
        go_simp
        refine (HN6.out _ (by rw [EG.out]; exact HAL.out)).mono ?_
        rintro e w2 ⟨rfl, rfl⟩
        dsimp only
        refine hK.out _ _ HAL.out (fun hHeld => ?_)
        clear hK K
        try simp only [Act.put, List.setIfInBounds_toArray, List.set_cons_zero, List.set_cons_succ, Array.toArray_toList, List.getElem_toArray, List.getElem_cons_zero, List.getElem_cons_succ]
        refine wpAnyH_ready (rs := [20]) (by kernel_rfl) (by simp) ?_
        refine AllReadyH.cons rfl (fun K hK => ?_) AllReadyH.nil
        go_simp
        refine (HN7.out _ (by rw [EG.out]; exact HAL.out)).mono ?_
        rintro e w2 ⟨rfl, rfl⟩
        dsimp only
        refine hK.out _ _ HAL.out (fun hHeld => ?_)
        clear hK K
        try simp only [Act.put, List.setIfInBounds_toArray, List.set_cons_zero, List.set_cons_succ, Array.toArray_toList, List.getElem_toArray, List.getElem_cons_zero, List.getElem_cons_succ]
        refine tk 21 (v := ?v109) ?y109 hHeld ?r109
        case y109 => intro w hSw; go_simp; try with_reducible rfl
        try simp only [Act.put, List.setIfInBounds_toArray, List.set_cons_zero, List.set_cons_succ, Array.toArray_toList, List.getElem_toArray, List.getElem_cons_zero, List.getElem_cons_succ]
        refine wpAnyH_ready (rs := [23]) (by kernel_rfl) (by simp) ?_
        refine AllReadyH.cons rfl (fun K hK => ?_) AllReadyH.nil
        go_simp
        refine hK.out _ _ HV0.out (fun hHeld => ?_)
        clear hK K
        try simp only [Act.put, List.setIfInBounds_toArray, List.set_cons_zero, List.set_cons_succ, Array.toArray_toList, List.getElem_toArray, List.getElem_cons_zero, List.getElem_cons_succ]
        exact wpAnyH_done (by kernel_rfl) KT _
    · go_simp
      refine hK.out _ _ HAL.out (fun hHeld => ?_)
      clear hK K
      try simp only [Act.put, List.setIfInBounds_toArray, List.set_cons_zero, List.set_cons_succ, Array.toArray_toList, List.getElem_toArray, List.getElem_cons_zero, List.getElem_cons_succ]
      refine wpAnyH_ready (rs := [3]) (by kernel_rfl) (by simp) ?_
      refine AllReadyH.cons rfl (fun K hK => ?_) AllReadyH.nil
      go_simp
      refine (HN2.out _ (by rw [EG.out]; exact HAL.out)).mono ?_
      rintro e w2 ⟨rfl, rfl⟩
      dsimp only
      refine hK.out _ _ HAL.out (fun hHeld => ?_)
      clear hK K
      try simp only [Act.put, List.setIfInBounds_toArray, List.set_cons_zero, List.set_cons_succ, Array.toArray_toList, List.getElem_toArray, List.getElem_cons_zero, List.getElem_cons_succ]
      refine wpAnyH_ready (rs := [8]) (by kernel_rfl) (by simp) ?_
      refine AllReadyH.cons rfl (fun K hK => ?_) AllReadyH.nil
      go_simp
      refine (HN4.out _ (by rw [EG.out]; exact HAL.out)).mono ?_
      rintro e w2 ⟨rfl, rfl⟩
      dsimp only
      refine hK.out _ _ HAL.out (fun hHeld => ?_)
      clear hK K
      try simp only [Act.put, List.setIfInBounds_toArray, List.set_cons_zero, List.set_cons_succ, Array.toArray_toList, List.getElem_toArray, List.getElem_cons_zero, List.getElem_cons_succ]
      refine wpAnyH_ready (rs := [12]) (by kernel_rfl) (by simp) ?_
      refine AllReadyH.cons rfl (fun K hK => ?_) AllReadyH.nil
      go_simp
      refine (HN5.out _ (by rw [EG.out]; exact HAL.out)).mono ?_
      rintro e w2 ⟨rfl, rfl⟩
      dsimp only
      refine hK.out _ _ HAL.out (fun hHeld => ?_)
      clear hK K
      try simp only [Act.put, List.setIfInBounds_toArray, List.set_cons_zero, List.set_cons_succ, Array.toArray_toList, List.getElem_toArray, List.getElem_cons_zero, List.getElem_cons_succ]
      refine wpAnyH_ready (rs := [16]) (by kernel_rfl) (by simp) ?_
      refine AllReadyH.cons rfl (fun K hK => ?_) AllReadyH.nil
      go_simp
      refine (HN6.out _ (by rw [EG.out]; exact HAL.out)).mono ?_
      rintro e w2 ⟨rfl, rfl⟩
      dsimp only
      refine hK.out _ _ HAL.out (fun hHeld => ?_)
      clear hK K
      try simp only [Act.put, List.setIfInBounds_toArray, List.set_cons_zero, List.set_cons_succ, Array.toArray_toList, List.getElem_toArray, List.getElem_cons_zero, List.getElem_cons_succ]
      refine wpAnyH_ready (rs := [20]) (by kernel_rfl) (by simp) ?_
      refine AllReadyH.cons rfl (fun K hK => ?_) AllReadyH.nil
      go_simp
      refine (HN7.out _ (by rw [EG.out]; exact HAL.out)).mono ?_
      rintro e w2 ⟨rfl, rfl⟩
      dsimp only
      refine hK.out _ _ HAL.out (fun hHeld => ?_)
      clear hK K
      try simp only [Act.put, List.setIfInBounds_toArray, List.set_cons_zero, List.set_cons_succ, Array.toArray_toList, List.getElem_toArray, List.getElem_cons_zero, List.getElem_cons_succ]
      refine tk 21 (v := ?v110) ?y110 hHeld ?r110
      case y110 => intro w hSw; go_simp; try with_reducible rfl
      try simp only [Act.put, List.setIfInBounds_toArray, List.set_cons_zero, List.set_cons_succ, Array.toArray_toList, List.getElem_toArray, List.getElem_cons_zero, List.getElem_cons_succ]
      refine wpAnyH_ready (rs := [23]) (by kernel_rfl) (by simp) ?_
      refine AllReadyH.cons rfl (fun K hK => ?_) AllReadyH.nil
      go_simp
      refine hK.out _ _ HV0.out (fun hHeld => ?_)
      clear hK K
      try simp only [Act.put, List.setIfInBounds_toArray, List.set_cons_zero, List.set_cons_succ, Array.toArray_toList, List.getElem_toArray, List.getElem_cons_zero, List.getElem_cons_succ]
      exact wpAnyH_done (by kernel_rfl) KT _
  case tail =>
    refine NoPanic.normal ?_
    go_upto_region 8 with fail
    clear bd sv hV0 egd z
    have hsrc0 : ∀ j, j < 48 → (V0.drew).cell? (Addr.add ⟨b0, o0, none⟩ j) = some (.int .u8 (m (0 + j))) := fun j hj => by
      obtain ⟨b', o', e', _, _, h'⟩ := bys_at (Q0.out.below (w' := V0.drew) (by rw [EG.out]; exact HV0.out.drew)) (by omega)
      cases e'
      rw [Addr.add_mid]
      exact h' j hj
    have HCP0 := hid (copy_seg V0.drew g 0 48 (sValidator ⟨fun _ => 0, fun _ => 0, N2, N3, N4, N5, N6, N7⟩) (sValidator ⟨fun q => m (0 + q), fun _ => 0, N2, N3, N4, N5, N6, N7⟩) (fun q => m (0 + q)) ⟨b0, o0, none⟩ c0 48 64 RV0.out (by rw [slValidator]; omega) hsrc0 (by kernel_rfl))
    clear hsrc0
    refine wp_region_noPanic ?_
    refine wp_region_held_drew (S := fun X => Below g w1 X) (by kernel_rfl) (HV0.out.drew) (fun hHeld => ?_)
    refine tk 0 (v := ?v111) ?y111 hHeld ?r111
    case y111 => intro w hSw; go_simp; try with_reducible rfl
    refine tk 1 (v := ?v112) ?y112 hHeld ?r112
    case y112 => intro w hSw; go_simp; try with_reducible rfl
    refine tk 2 (v := ?v113) ?y113 hHeld ?r113
    case y113 => intro w hSw; go_simp; try with_reducible rfl
    refine tk 3 (v := ?v114) ?y114 hHeld ?r114
    case y114 => intro w hSw; go_simp; try with_reducible rfl
    refine tk 4 (v := ?v115) ?y115 hHeld ?r115
    case y115 => intro w hSw; have ld := (below_cell hSw (by rw [← EG.out]; exact HGP.out)).trans L0.out; go_simp; try with_reducible rfl
    try simp only [Act.put, List.setIfInBounds_toArray, List.set_cons_zero, List.set_cons_succ, Array.toArray_toList, List.getElem_toArray, List.getElem_cons_zero, List.getElem_cons_succ]
    refine wpAnyH_ready (rs := [5]) (by kernel_rfl) (by simp) ?_
    refine AllReadyH.cons rfl (fun K hK => ?_) AllReadyH.nil
    refine step_copy_is (by rfl) _ _ 39 39 (by rfl) _ _ _ _ (by rfl) (by rfl) HCP0.out ?_
    refine hK.out _ _ (below_row HV0.out.drew (Nat.le_refl _) _) (fun hHeld => ?_)
    clear hK K
    try simp only [Act.put, List.setIfInBounds_toArray, List.set_cons_zero, List.set_cons_succ, Array.toArray_toList, List.getElem_toArray, List.getElem_cons_zero, List.getElem_cons_succ]
    refine wpAnyH_done (by kernel_rfl) ?_ _
    refine NoPanic.normal ?_
    obtain ⟨V1, hV1⟩ : ∃ V, (V0.drew).setRow g (cel (sValidator ⟨fun q => m (0 + q), fun _ => 0, N2, N3, N4, N5, N6, N7⟩)) = V := ⟨_, rfl⟩
    have RV1 : Hid (V1.heap[g]? = some (.cells (cel (sValidator ⟨fun q => m (0 + q), fun _ => 0, N2, N3, N4, N5, N6, N7⟩)) 64)) := by rw [← hV1]; exact setRow_at (w := V0.drew) RV0.out
    have HV1 : Hid (Below g w1 V1) := by rw [← hV1]; exact below_row HV0.out.drew (Nat.le_refl _) _
    rw [hV1]
    clear hV1
    go_upto_region 9 with fail
    have hsrc1 : ∀ j, j < 32 → (V1.drew).cell? (Addr.add ⟨b1, o1, none⟩ j) = some (.int .u8 (m (48 + j))) := fun j hj => by
      obtain ⟨b', o', e', _, _, h'⟩ := bys_at (Q1.out.below (w' := V1.drew) (by rw [EG.out]; exact HV1.out.drew)) (by omega)
      cases e'
      rw [Addr.add_mid]
      exact h' j hj
    have HCP1 := hid (copy_seg V1.drew g 48 32 (sValidator ⟨fun q => m (0 + q), fun _ => 0, N2, N3, N4, N5, N6, N7⟩) (sValidator ⟨fun q => m (0 + q), fun q => m (48 + q), N2, N3, N4, N5, N6, N7⟩) (fun q => m (48 + q)) ⟨b1, o1, none⟩ c1 32 64 RV1.out (by rw [slValidator]; omega) hsrc1 (by kernel_rfl))
    clear hsrc1
    refine wp_region_noPanic ?_
    refine wp_region_held_drew (S := fun X => Below g w1 X) (by kernel_rfl) (HV1.out.drew) (fun hHeld => ?_)
    refine tk 0 (v := ?v116) ?y116 hHeld ?r116
    case y116 => intro w hSw; go_simp; try with_reducible rfl
    refine tk 1 (v := ?v117) ?y117 hHeld ?r117
    case y117 => intro w hSw; go_simp; try with_reducible rfl
    refine tk 2 (v := ?v118) ?y118 hHeld ?r118
    case y118 => intro w hSw; go_simp; try with_reducible rfl
    refine tk 3 (v := ?v119) ?y119 hHeld ?r119
    case y119 => intro w hSw; go_simp; try with_reducible rfl
    refine tk 4 (v := ?v120) ?y120 hHeld ?r120
    case y120 => intro w hSw; have ld := (below_cell hSw (by rw [← EG.out]; exact HGP.out)).trans L1.out; go_simp; try with_reducible rfl
    try simp only [Act.put, List.setIfInBounds_toArray, List.set_cons_zero, List.set_cons_succ, Array.toArray_toList, List.getElem_toArray, List.getElem_cons_zero, List.getElem_cons_succ]
    refine wpAnyH_ready (rs := [5]) (by kernel_rfl) (by simp) ?_
    refine AllReadyH.cons rfl (fun K hK => ?_) AllReadyH.nil
    refine step_copy_is (by rfl) _ _ 39 39 (by rfl) _ _ _ _ (by rfl) (by rfl) HCP1.out ?_
    refine hK.out _ _ (below_row HV1.out.drew (Nat.le_refl _) _) (fun hHeld => ?_)
    clear hK K
    try simp only [Act.put, List.setIfInBounds_toArray, List.set_cons_zero, List.set_cons_succ, Array.toArray_toList, List.getElem_toArray, List.getElem_cons_zero, List.getElem_cons_succ]
    refine wpAnyH_done (by kernel_rfl) ?_ _
    refine NoPanic.normal ?_
    obtain ⟨V2, hV2⟩ : ∃ V, (V1.drew).setRow g (cel (sValidator ⟨fun q => m (0 + q), fun q => m (48 + q), N2, N3, N4, N5, N6, N7⟩)) = V := ⟨_, rfl⟩
    have RV2 : Hid (V2.heap[g]? = some (.cells (cel (sValidator ⟨fun q => m (0 + q), fun q => m (48 + q), N2, N3, N4, N5, N6, N7⟩)) 64)) := by rw [← hV2]; exact setRow_at (w := V1.drew) RV1.out
    have HV2 : Hid (Below g w1 V2) := by rw [← hV2]; exact below_row HV1.out.drew (Nat.le_refl _) _
    rw [hV2]
    clear hV2
    obtain ⟨vv, ev⟩ : ∃ v : VValidator, ⟨fun q => m (0 + q), fun q => m (48 + q), N2, N3, N4, N5, N6, N7⟩ = v := ⟨_, rfl⟩
    have rv := RV2.out
    rw [ev] at rv
    have rr : V2.heap[y]? = some (.cells (cel (sValidator oValidator)) 64) := (HV2.out.block _ (by rw [← EG.out]; exact Nat.lt_of_lt_of_le HY.out HB1.out.size)).trans ((HB1.out.block _ HY.out).trans R2.out)
    have sv := svValidator_run rr vv
    have lv := lvValidator_mid (x := vv) rv 0 (take_all _) rfl
    have RR := hid rr
    have EV := hid ev
    clear rr rv ev
    go_wp2
    refine retValidator _ _ y vv 64 _ rfl rfl rfl rfl (setRow_at RR.out) ⟨?_, ?_⟩
    · rw [← EV.out, ← EN2.out, ← EN3.out, ← EN4.out, ← EN5.out, ← EN6.out, ← EN7.out]
      rfl
    have e0 := EY.out
    have e1 := HB2.out.size
    have e2 := HB1.out.size
    have e3 := EG.out
    exact below_row (HB2.out.trans ((HB1.out.mono (by omega)).trans (HV2.out.mono (by omega)))) (by omega) _

end Go.Proofs.Ytehpfemlcjcabaa
