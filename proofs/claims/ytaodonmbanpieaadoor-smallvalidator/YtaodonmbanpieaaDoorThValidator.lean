/-
  What Read answers.
-/
import Derived.Test.YtaodonmbanpieaaDoorCoA
import Derived.Test.YtaodonmbanpieaaDoorCoB
namespace Go.Proofs.YtaodonmbanpieaaDoor
open Go.RowKit
set_option linter.unusedVariables false
set_option linter.unusedSimpArgs false

attribute [local go_sem ↓] sv24_eq lv24_eq ix22_eq slr_eq bd27_eq bs22_eq sv8_eq mkI_eq ixI_eq ixP_eq bsP_eq bsI_eq lvFork_eq svFork_eq bdFork_eq lvCheckpoint_eq svCheckpoint_eq bdCheckpoint_eq lvValidator_eq svValidator_eq bdValidator_eq lvData_eq svData_eq bdData_eq lvEth1_eq svEth1_eq bdEth1_eq lvHeader_eq svHeader_eq bdHeader_eq lvExit_eq svExit_eq bdExit_eq

set_option maxRecDepth 20000 in
set_option maxHeartbeats 2000000 in
theorem readValidator_no (m : Nat → Int) (ao : Option Addr) (len cap : Nat) (w : World) (hb : Bys w ao len cap m) (hm : ∀ j, 0 ≤ m j ∧ m j < 256) (hlc : len ≤ cap) (hcap : cap ≤ 9223372036854775807) (hlen : len ≤ 140737488351232) (hN : ¬ len = 121) :
    Calls Tryd.prog 26 #[.slice ao len cap] w fun e w' => e = .returned (.tuple #[.agg (cel (sValidator oValidator)), .int .i64 4]) ∧ Below w.heap.size w w' := by
  have z := zeroValidator
  obtain ⟨W1, hW1⟩ : ∃ W, w.alloc (.cells (cel (sValidator oValidator)) 53) = W := ⟨_, rfl⟩
  obtain ⟨W2, hW2⟩ : ∃ W, W1.alloc (.cells (vs .i64 8 zValidator) 3) = W := ⟨_, rfl⟩
  have hB1 : Below w.heap.size w W1 := by rw [← hW1]; exact (Below.refl _ _).alloc (Nat.le_refl _) _
  have z1 : W1.heap.size = w.heap.size + 1 := by rw [← hW1]; simp
  have z2 : W2.heap.size = w.heap.size + 2 := by rw [← hW2]; simp [z1]
  have hB2 : Below w.heap.size w W2 := by rw [← hW2]; exact hB1.alloc (by omega) _
  have r1 : W1.heap[w.heap.size]? = some (.cells (cel (sValidator oValidator)) 53) := by rw [← hW1]; exact heap_new rfl
  have r2 : W2.heap[w.heap.size]? = some (.cells (cel (sValidator oValidator)) 53) := by rw [← hW2]; exact (heap_old (by omega)).trans r1
  have g2 : W2.heap[W1.heap.size]? = some (.cells (vs .i64 8 zValidator) 3) := by rw [← hW2]; exact heap_new rfl
  have bsi := bsI_Validator W1
  rw [hW2] at bsi
  have hcut := cut7_no fixValidator m ao len cap W1.heap.size W2 (hb.below hB2) hm hlen hlc hcap g2 (by omega) hN
  obtain ⟨y, ey⟩ : ∃ y, w.heap.size = y := ⟨_, rfl⟩
  obtain ⟨y1, ey1⟩ : ∃ y, W1.heap.size = y := ⟨_, rfl⟩
  rw [ey1] at bsi hcut
  have hy : y < W2.heap.size := by omega
  rw [ey] at r2
  have HCUT := hid hcut
  have R2 := hid r2
  have HB2 := hid hB2
  have HY := hid hy
  have EY := hid ey
  clear hcut r2 hB2 hy r1 g2 hB1 z1 z2 hlc hcap hb hlen hN
  go_enter Tryd.func26, Tryd.ntmps26
  go_upto_region 2 with (go_at_call 57; refine HCUT.out.mono ?_; rintro e w1 ⟨a1, rfl, hb1⟩)
  clear hW1 hW2 ey ey1 bsi
  have rr := (hb1.block _ HY.out).trans R2.out
  have sv := svValidator_run rr oValidator
  have bd := bdValidator_0
  have RR := hid rr
  have HB1 := hid hb1
  clear rr hb1
  go_wp2
  refine retValidator _ _ y oValidator 53 _ rfl rfl rfl rfl (setRow_at RR.out) ⟨rfl, ?_⟩
  have e0 := EY.out
  have e1 := HB2.out.size
  exact below_row (HB2.out.trans (HB1.out.mono (by omega))) (by omega) _

end Go.Proofs.YtaodonmbanpieaaDoor
namespace Go.Proofs.YtaodonmbanpieaaDoor
open Go.RowKit
set_option linter.unusedVariables false
set_option linter.unusedSimpArgs false

attribute [local go_sem ↓] sv24_eq lv24_eq ix22_eq slr_eq bd27_eq bs22_eq sv8_eq mkI_eq ixI_eq ixP_eq bsP_eq bsI_eq lvCheckpoint_eq svCheckpoint_eq bdCheckpoint_eq lvValidator_eq svValidator_eq bdValidator_eq lvData_eq svData_eq bdData_eq lvHeader_eq svHeader_eq bdHeader_eq lvExit_eq svExit_eq bdExit_eq

set_option maxRecDepth 20000 in
set_option maxHeartbeats 8000000 in
theorem readValidator_ok (m : Nat → Int) (ao : Option Addr) (cap : Nat) (w : World) (hb : Bys w ao 121 cap m) (hm : ∀ j, 0 ≤ m j ∧ m j < 256) (hlc : 121 ≤ cap) (hcap : cap ≤ 9223372036854775807) (hfl : ¬ 1 < m 88) :
    Calls Tryd.prog 26 #[.slice ao 121 cap] w fun e w' => e = .returned (.tuple #[.agg (cel (sValidator (pValidator m))), .int .i64 0]) ∧ Below w.heap.size w w' := by
  have z := zeroValidator
  obtain ⟨W1, hW1⟩ : ∃ W, w.alloc (.cells (cel (sValidator oValidator)) 53) = W := ⟨_, rfl⟩
  obtain ⟨W2, hW2⟩ : ∃ W, W1.alloc (.cells (vs .i64 8 zValidator) 3) = W := ⟨_, rfl⟩
  have hB1 : Below w.heap.size w W1 := by rw [← hW1]; exact (Below.refl _ _).alloc (Nat.le_refl _) _
  have z1 : W1.heap.size = w.heap.size + 1 := by rw [← hW1]; simp
  have z2 : W2.heap.size = w.heap.size + 2 := by rw [← hW2]; simp [z1]
  have hB2 : Below w.heap.size w W2 := by rw [← hW2]; exact hB1.alloc (by omega) _
  have r1 : W1.heap[w.heap.size]? = some (.cells (cel (sValidator oValidator)) 53) := by rw [← hW1]; exact heap_new rfl
  have r2 : W2.heap[w.heap.size]? = some (.cells (cel (sValidator oValidator)) 53) := by rw [← hW2]; exact (heap_old (by omega)).trans r1
  have g2 : W2.heap[W1.heap.size]? = some (.cells (vs .i64 8 zValidator) 3) := by rw [← hW2]; exact heap_new rfl
  have bsi := bsI_Validator W1
  rw [hW2] at bsi
  have hcut := cut7_ok fixValidator m ao cap W1.heap.size W2 (hb.below hB2) hm (by omega) hlc hcap g2 (by omega) zposValidator (by omega)
  obtain ⟨y, ey⟩ : ∃ y, w.heap.size = y := ⟨_, rfl⟩
  obtain ⟨y1, ey1⟩ : ∃ y, W1.heap.size = y := ⟨_, rfl⟩
  rw [ey1] at bsi hcut
  have hy : y < W2.heap.size := by omega
  rw [ey] at r2
  have HCUT := hid hcut
  have R2 := hid r2
  have HB2 := hid hB2
  have HY := hid hy
  have EY := hid ey
  clear hcut r2 hB2 hy r1 g2 hB1 z1 z2 hlc hcap hb
  have HFL := hid hfl
  clear hfl
  go_enter Tryd.func26, Tryd.ntmps26
  go_upto_region 2 with (go_at_call 57; refine HCUT.out.mono ?_; rintro e w1 ⟨gp, o, rfl, hgp, hcu, hb1⟩)
  clear hW1 hW2 ey ey1 bsi
  obtain ⟨b0, o0, c0, l0, q0⟩ := hcu 0 (by omega)
  replace l0 : w1.cell? ⟨gp, o + 0, none⟩ = some (.slice (some ⟨b0, o0, none⟩) 48 c0) := l0
  replace q0 : Bys w1 (some ⟨b0, o0, none⟩) 48 c0 (fun q => m (0 + q)) := q0
  obtain ⟨P0, eP0⟩ : ∃ P, o + 0 = P := ⟨_, rfl⟩
  rw [eP0] at l0
  have ix0 : ∀ X : World, (ixP (.slice (some ⟨gp, o, none⟩) 8 8) (.int .i64 0)).run Tryd.prog X = .ok (.pointer (some ⟨gp, P0, none⟩)) X := fun X => by rw [← eP0]; exact ixP_run X gp o 8 8 0 (by omega)
  obtain ⟨b1, o1, c1, l1, q1⟩ := hcu 1 (by omega)
  replace l1 : w1.cell? ⟨gp, o + 1, none⟩ = some (.slice (some ⟨b1, o1, none⟩) 32 c1) := l1
  replace q1 : Bys w1 (some ⟨b1, o1, none⟩) 32 c1 (fun q => m (48 + q)) := q1
  obtain ⟨P1, eP1⟩ : ∃ P, o + 1 = P := ⟨_, rfl⟩
  rw [eP1] at l1
  have ix1 : ∀ X : World, (ixP (.slice (some ⟨gp, o, none⟩) 8 8) (.int .i64 1)).run Tryd.prog X = .ok (.pointer (some ⟨gp, P1, none⟩)) X := fun X => by rw [← eP1]; exact ixP_run X gp o 8 8 1 (by omega)
  obtain ⟨b2, o2, c2, l2, q2⟩ := hcu 2 (by omega)
  replace l2 : w1.cell? ⟨gp, o + 2, none⟩ = some (.slice (some ⟨b2, o2, none⟩) 8 c2) := l2
  replace q2 : Bys w1 (some ⟨b2, o2, none⟩) 8 c2 (fun q => m (80 + q)) := q2
  obtain ⟨P2, eP2⟩ : ∃ P, o + 2 = P := ⟨_, rfl⟩
  rw [eP2] at l2
  have ix2 : ∀ X : World, (ixP (.slice (some ⟨gp, o, none⟩) 8 8) (.int .i64 2)).run Tryd.prog X = .ok (.pointer (some ⟨gp, P2, none⟩)) X := fun X => by rw [← eP2]; exact ixP_run X gp o 8 8 2 (by omega)
  obtain ⟨b3, o3, c3, l3, q3⟩ := hcu 3 (by omega)
  replace l3 : w1.cell? ⟨gp, o + 3, none⟩ = some (.slice (some ⟨b3, o3, none⟩) 1 c3) := l3
  replace q3 : Bys w1 (some ⟨b3, o3, none⟩) 1 c3 (fun q => m (88 + q)) := q3
  obtain ⟨P3, eP3⟩ : ∃ P, o + 3 = P := ⟨_, rfl⟩
  rw [eP3] at l3
  have ix3 : ∀ X : World, (ixP (.slice (some ⟨gp, o, none⟩) 8 8) (.int .i64 3)).run Tryd.prog X = .ok (.pointer (some ⟨gp, P3, none⟩)) X := fun X => by rw [← eP3]; exact ixP_run X gp o 8 8 3 (by omega)
  obtain ⟨b4, o4, c4, l4, q4⟩ := hcu 4 (by omega)
  replace l4 : w1.cell? ⟨gp, o + 4, none⟩ = some (.slice (some ⟨b4, o4, none⟩) 8 c4) := l4
  replace q4 : Bys w1 (some ⟨b4, o4, none⟩) 8 c4 (fun q => m (89 + q)) := q4
  obtain ⟨P4, eP4⟩ : ∃ P, o + 4 = P := ⟨_, rfl⟩
  rw [eP4] at l4
  have ix4 : ∀ X : World, (ixP (.slice (some ⟨gp, o, none⟩) 8 8) (.int .i64 4)).run Tryd.prog X = .ok (.pointer (some ⟨gp, P4, none⟩)) X := fun X => by rw [← eP4]; exact ixP_run X gp o 8 8 4 (by omega)
  obtain ⟨b5, o5, c5, l5, q5⟩ := hcu 5 (by omega)
  replace l5 : w1.cell? ⟨gp, o + 5, none⟩ = some (.slice (some ⟨b5, o5, none⟩) 8 c5) := l5
  replace q5 : Bys w1 (some ⟨b5, o5, none⟩) 8 c5 (fun q => m (97 + q)) := q5
  obtain ⟨P5, eP5⟩ : ∃ P, o + 5 = P := ⟨_, rfl⟩
  rw [eP5] at l5
  have ix5 : ∀ X : World, (ixP (.slice (some ⟨gp, o, none⟩) 8 8) (.int .i64 5)).run Tryd.prog X = .ok (.pointer (some ⟨gp, P5, none⟩)) X := fun X => by rw [← eP5]; exact ixP_run X gp o 8 8 5 (by omega)
  obtain ⟨b6, o6, c6, l6, q6⟩ := hcu 6 (by omega)
  replace l6 : w1.cell? ⟨gp, o + 6, none⟩ = some (.slice (some ⟨b6, o6, none⟩) 8 c6) := l6
  replace q6 : Bys w1 (some ⟨b6, o6, none⟩) 8 c6 (fun q => m (105 + q)) := q6
  obtain ⟨P6, eP6⟩ : ∃ P, o + 6 = P := ⟨_, rfl⟩
  rw [eP6] at l6
  have ix6 : ∀ X : World, (ixP (.slice (some ⟨gp, o, none⟩) 8 8) (.int .i64 6)).run Tryd.prog X = .ok (.pointer (some ⟨gp, P6, none⟩)) X := fun X => by rw [← eP6]; exact ixP_run X gp o 8 8 6 (by omega)
  obtain ⟨b7, o7, c7, l7, q7⟩ := hcu 7 (by omega)
  replace l7 : w1.cell? ⟨gp, o + 7, none⟩ = some (.slice (some ⟨b7, o7, none⟩) 8 c7) := l7
  replace q7 : Bys w1 (some ⟨b7, o7, none⟩) 8 c7 (fun q => m (113 + q)) := q7
  obtain ⟨P7, eP7⟩ : ∃ P, o + 7 = P := ⟨_, rfl⟩
  rw [eP7] at l7
  have ix7 : ∀ X : World, (ixP (.slice (some ⟨gp, o, none⟩) 8 8) (.int .i64 7)).run Tryd.prog X = .ok (.pointer (some ⟨gp, P7, none⟩)) X := fun X => by rw [← eP7]; exact ixP_run X gp o 8 8 7 (by omega)
  obtain ⟨N2, eN2⟩ : ∃ N, rdN (fun q => m (80 + q)) = N := ⟨_, rfl⟩
  have hn2 : ∀ X, Below w1.heap.size w1 X → Calls Tryd.prog 58 #[.slice (some ⟨b2, o2, none⟩) 8 c2] X fun e w' => e = .returned (.int .u64 N2) ∧ w' = X := fun X h => by
    rw [← eN2]
    exact rnum7 (some ⟨b2, o2, none⟩) c2 (fun q => m (80 + q)) X (q2.below h) (fun j _ => hm _)
  have HN2 := hid hn2
  obtain ⟨N4, eN4⟩ : ∃ N, rdN (fun q => m (89 + q)) = N := ⟨_, rfl⟩
  have hn4 : ∀ X, Below w1.heap.size w1 X → Calls Tryd.prog 58 #[.slice (some ⟨b4, o4, none⟩) 8 c4] X fun e w' => e = .returned (.int .u64 N4) ∧ w' = X := fun X h => by
    rw [← eN4]
    exact rnum7 (some ⟨b4, o4, none⟩) c4 (fun q => m (89 + q)) X (q4.below h) (fun j _ => hm _)
  have HN4 := hid hn4
  obtain ⟨N5, eN5⟩ : ∃ N, rdN (fun q => m (97 + q)) = N := ⟨_, rfl⟩
  have hn5 : ∀ X, Below w1.heap.size w1 X → Calls Tryd.prog 58 #[.slice (some ⟨b5, o5, none⟩) 8 c5] X fun e w' => e = .returned (.int .u64 N5) ∧ w' = X := fun X h => by
    rw [← eN5]
    exact rnum7 (some ⟨b5, o5, none⟩) c5 (fun q => m (97 + q)) X (q5.below h) (fun j _ => hm _)
  have HN5 := hid hn5
  obtain ⟨N6, eN6⟩ : ∃ N, rdN (fun q => m (105 + q)) = N := ⟨_, rfl⟩
  have hn6 : ∀ X, Below w1.heap.size w1 X → Calls Tryd.prog 58 #[.slice (some ⟨b6, o6, none⟩) 8 c6] X fun e w' => e = .returned (.int .u64 N6) ∧ w' = X := fun X h => by
    rw [← eN6]
    exact rnum7 (some ⟨b6, o6, none⟩) c6 (fun q => m (105 + q)) X (q6.below h) (fun j _ => hm _)
  have HN6 := hid hn6
  obtain ⟨N7, eN7⟩ : ∃ N, rdN (fun q => m (113 + q)) = N := ⟨_, rfl⟩
  have hn7 : ∀ X, Below w1.heap.size w1 X → Calls Tryd.prog 58 #[.slice (some ⟨b7, o7, none⟩) 8 c7] X fun e w' => e = .returned (.int .u64 N7) ∧ w' = X := fun X h => by
    rw [← eN7]
    exact rnum7 (some ⟨b7, o7, none⟩) c7 (fun q => m (113 + q)) X (q7.below h) (fun j _ => hm _)
  have HN7 := hid hn7
  obtain ⟨N3, eN3⟩ : ∃ N, (m 88 == 1) = N := ⟨_, rfl⟩
  have hn3 : ∀ X, Below w1.heap.size w1 X → Calls Tryd.prog 64 #[.slice (some ⟨b3, o3, none⟩) 1 c3] X fun e w' => e = .returned (.tuple #[.bool N3, .int .i64 0]) ∧ w' = X := fun X h => by
    obtain ⟨b', o', e', h1, h2, h3⟩ := bys_at (q3.below h) (by omega)
    cases e'
    have hc := h3 0 (by omega)
    rw [Nat.add_zero] at hc
    rw [← eN3]
    exact Z.bool_one b3 o3 c3 _ X hc (by have := HFL.out; omega) (hm _).1
  have HN3 := hid hn3
  have EN2 := hid eN2
  have EN4 := hid eN4
  have EN5 := hid eN5
  have EN6 := hid eN6
  have EN7 := hid eN7
  have EN3 := hid eN3
  have Q0 := hid q0
  have L0 := hid l0
  have Q1 := hid q1
  have L1 := hid l1
  have Q2 := hid q2
  have L2 := hid l2
  have Q3 := hid q3
  have L3 := hid l3
  have Q4 := hid q4
  have L4 := hid l4
  have Q5 := hid q5
  have L5 := hid l5
  have Q6 := hid q6
  have L6 := hid l6
  have Q7 := hid q7
  have L7 := hid l7
  have HB1 := hid hb1
  have HGP := hid hgp
  clear q0 eP0 q1 eP1 q2 eP2 q3 eP3 q4 eP4 q5 eP5 q6 eP6 q7 eP7 hn2 eN2 hn4 eN4 hn5 eN5 hn6 eN6 hn7 eN7 hn3 eN3 hb1 hgp hcu
  go_upto_region 7 with (go_at_call 64; refine (HN3.out _ (Below.refl _ _)).mono ?_; rintro e w2 ⟨rfl, hw⟩; obtain rfl := hw.symm)
  have bd : ∀ X : World, (bdValidator #[(2, .int .u64 N2), (3, .bool N3), (4, .int .u64 N4), (5, .int .u64 N5), (6, .int .u64 N6), (7, .int .u64 N7)]).run Tryd.prog X = .ok (.agg (cel (sValidator ⟨fun _ => 0, fun _ => 0, N2, N3, N4, N5, N6, N7⟩))) X := fun X => by kernel_rfl
  obtain ⟨g, eg⟩ : ∃ g, w1.heap.size = g := ⟨_, rfl⟩
  obtain ⟨wd, hwd⟩ : ∃ X, w1.drew = X := ⟨_, rfl⟩
  have egd : wd.heap.size = g := by rw [← hwd]; exact eg
  have hwe : Below g w1 wd := by rw [← hwd]; exact (Below.refl _ _).drew
  have HWD : Hid (Below g w1 w1.drew) := (Below.refl _ _).drew
  have hal : Below g w1 (wd.alloc (.cells (cel (sValidator oValidator)) 53)) := hwe.alloc (by rw [egd]; exact Nat.le_refl _) _
  have sv := svValidator_newv wd oValidator ⟨fun _ => 0, fun _ => 0, N2, N3, N4, N5, N6, N7⟩
  obtain ⟨V0, hV0⟩ : ∃ V, wd.alloc (.cells (cel (sValidator ⟨fun _ => 0, fun _ => 0, N2, N3, N4, N5, N6, N7⟩)) 53) = V := ⟨_, rfl⟩
  have hB0 : Below g w1 V0 := by rw [← hV0]; exact hwe.alloc (by rw [egd]; exact Nat.le_refl _) _
  have rV0 : V0.heap[g]? = some (.cells (cel (sValidator ⟨fun _ => 0, fun _ => 0, N2, N3, N4, N5, N6, N7⟩)) 53) := by rw [← hV0]; exact heap_new egd.symm
  rw [hV0, egd] at sv
  have EG := hid eg
  have HWE := hid hwe
  have HAL := hid hal
  have RV0 := hid rV0
  have HV0 := hid hB0
  clear rV0 hB0
  clear hwe hal eg
  refine wp_region_noPanic ?_
  refine wp_region_held_drew (S := fun X => Below g w1 X) (by kernel_rfl) (HWD.out) (fun hHeld => ?_)
  rw [hwd] at hHeld ⊢
  clear hwd
  refine wpAnyH_take (i := 0) (v := ?v129) rfl (by kernel_rfl) (by kernel_rfl) (by kernel_rfl) (fun _ _ _ h => h) (Or.inl ⟨by rfl, ?hy129⟩) hHeld ?rest129
  case hy129 =>
    intro w hSw
    go_simp
    try with_reducible rfl
  try simp only [Act.put, List.setIfInBounds_toArray, List.set_cons_zero, List.set_cons_succ, Array.toArray_toList, List.getElem_toArray, List.getElem_cons_zero, List.getElem_cons_succ]
  refine wpAnyH_take (i := 1) (v := ?v130) rfl (by kernel_rfl) (by kernel_rfl) (by kernel_rfl) (fun _ _ _ h => h) (Or.inl ⟨by rfl, ?hy130⟩) hHeld ?rest130
  case hy130 =>
    intro w hSw
    go_simp
    try with_reducible rfl
  try simp only [Act.put, List.setIfInBounds_toArray, List.set_cons_zero, List.set_cons_succ, Array.toArray_toList, List.getElem_toArray, List.getElem_cons_zero, List.getElem_cons_succ]
  refine wpAnyH_take (i := 2) (v := ?v131) rfl (by kernel_rfl) (by kernel_rfl) (by kernel_rfl) (fun _ _ _ h => h) (Or.inl ⟨by rfl, ?hy131⟩) hHeld ?rest131
  case hy131 =>
    intro w hSw
    have ld := (below_cell hSw (by rw [← EG.out]; exact HGP.out)).trans L2.out
    go_simp
    try with_reducible rfl
  try simp only [Act.put, List.setIfInBounds_toArray, List.set_cons_zero, List.set_cons_succ, Array.toArray_toList, List.getElem_toArray, List.getElem_cons_zero, List.getElem_cons_succ]
  refine wpAnyH_take (i := 4) (v := ?v132) rfl (by kernel_rfl) (by kernel_rfl) (by kernel_rfl) (fun _ _ _ h => h) (Or.inl ⟨by rfl, ?hy132⟩) hHeld ?rest132
  case hy132 =>
    intro w hSw
    go_simp
    try with_reducible rfl
  try simp only [Act.put, List.setIfInBounds_toArray, List.set_cons_zero, List.set_cons_succ, Array.toArray_toList, List.getElem_toArray, List.getElem_cons_zero, List.getElem_cons_succ]
  refine wpAnyH_take (i := 5) (v := ?v133) rfl (by kernel_rfl) (by kernel_rfl) (by kernel_rfl) (fun _ _ _ h => h) (Or.inl ⟨by rfl, ?hy133⟩) hHeld ?rest133
  case hy133 =>
    intro w hSw
    go_simp
    try with_reducible rfl
  try simp only [Act.put, List.setIfInBounds_toArray, List.set_cons_zero, List.set_cons_succ, Array.toArray_toList, List.getElem_toArray, List.getElem_cons_zero, List.getElem_cons_succ]
  refine wpAnyH_take (i := 6) (v := ?v134) rfl (by kernel_rfl) (by kernel_rfl) (by kernel_rfl) (fun _ _ _ h => h) (Or.inl ⟨by rfl, ?hy134⟩) hHeld ?rest134
  case hy134 =>
    intro w hSw
    go_simp
    try with_reducible rfl
  try simp only [Act.put, List.setIfInBounds_toArray, List.set_cons_zero, List.set_cons_succ, Array.toArray_toList, List.getElem_toArray, List.getElem_cons_zero, List.getElem_cons_succ]
  refine wpAnyH_take (i := 7) (v := ?v135) rfl (by kernel_rfl) (by kernel_rfl) (by kernel_rfl) (fun _ _ _ h => h) (Or.inl ⟨by rfl, ?hy135⟩) hHeld ?rest135
  case hy135 =>
    intro w hSw
    have ld := (below_cell hSw (by rw [← EG.out]; exact HGP.out)).trans L4.out
    go_simp
    try with_reducible rfl
  try simp only [Act.put, List.setIfInBounds_toArray, List.set_cons_zero, List.set_cons_succ, Array.toArray_toList, List.getElem_toArray, List.getElem_cons_zero, List.getElem_cons_succ]
  refine wpAnyH_take (i := 9) (v := ?v136) rfl (by kernel_rfl) (by kernel_rfl) (by kernel_rfl) (fun _ _ _ h => h) (Or.inl ⟨by rfl, ?hy136⟩) hHeld ?rest136
  case hy136 =>
    intro w hSw
    go_simp
    try with_reducible rfl
  try simp only [Act.put, List.setIfInBounds_toArray, List.set_cons_zero, List.set_cons_succ, Array.toArray_toList, List.getElem_toArray, List.getElem_cons_zero, List.getElem_cons_succ]
  refine wpAnyH_take (i := 10) (v := ?v137) rfl (by kernel_rfl) (by kernel_rfl) (by kernel_rfl) (fun _ _ _ h => h) (Or.inl ⟨by rfl, ?hy137⟩) hHeld ?rest137
  case hy137 =>
    intro w hSw
    go_simp
    try with_reducible rfl
  try simp only [Act.put, List.setIfInBounds_toArray, List.set_cons_zero, List.set_cons_succ, Array.toArray_toList, List.getElem_toArray, List.getElem_cons_zero, List.getElem_cons_succ]
  refine wpAnyH_take (i := 11) (v := ?v138) rfl (by kernel_rfl) (by kernel_rfl) (by kernel_rfl) (fun _ _ _ h => h) (Or.inl ⟨by rfl, ?hy138⟩) hHeld ?rest138
  case hy138 =>
    intro w hSw
    have ld := (below_cell hSw (by rw [← EG.out]; exact HGP.out)).trans L5.out
    go_simp
    try with_reducible rfl
  try simp only [Act.put, List.setIfInBounds_toArray, List.set_cons_zero, List.set_cons_succ, Array.toArray_toList, List.getElem_toArray, List.getElem_cons_zero, List.getElem_cons_succ]
  refine wpAnyH_take (i := 13) (v := ?v139) rfl (by kernel_rfl) (by kernel_rfl) (by kernel_rfl) (fun _ _ _ h => h) (Or.inl ⟨by rfl, ?hy139⟩) hHeld ?rest139
  case hy139 =>
    intro w hSw
    go_simp
    try with_reducible rfl
  try simp only [Act.put, List.setIfInBounds_toArray, List.set_cons_zero, List.set_cons_succ, Array.toArray_toList, List.getElem_toArray, List.getElem_cons_zero, List.getElem_cons_succ]
  refine wpAnyH_take (i := 14) (v := ?v140) rfl (by kernel_rfl) (by kernel_rfl) (by kernel_rfl) (fun _ _ _ h => h) (Or.inl ⟨by rfl, ?hy140⟩) hHeld ?rest140
  case hy140 =>
    intro w hSw
    go_simp
    try with_reducible rfl
  try simp only [Act.put, List.setIfInBounds_toArray, List.set_cons_zero, List.set_cons_succ, Array.toArray_toList, List.getElem_toArray, List.getElem_cons_zero, List.getElem_cons_succ]
  refine wpAnyH_take (i := 15) (v := ?v141) rfl (by kernel_rfl) (by kernel_rfl) (by kernel_rfl) (fun _ _ _ h => h) (Or.inl ⟨by rfl, ?hy141⟩) hHeld ?rest141
  case hy141 =>
    intro w hSw
    have ld := (below_cell hSw (by rw [← EG.out]; exact HGP.out)).trans L6.out
    go_simp
    try with_reducible rfl
  try simp only [Act.put, List.setIfInBounds_toArray, List.set_cons_zero, List.set_cons_succ, Array.toArray_toList, List.getElem_toArray, List.getElem_cons_zero, List.getElem_cons_succ]
  refine wpAnyH_take (i := 17) (v := ?v142) rfl (by kernel_rfl) (by kernel_rfl) (by kernel_rfl) (fun _ _ _ h => h) (Or.inl ⟨by rfl, ?hy142⟩) hHeld ?rest142
  case hy142 =>
    intro w hSw
    go_simp
    try with_reducible rfl
  try simp only [Act.put, List.setIfInBounds_toArray, List.set_cons_zero, List.set_cons_succ, Array.toArray_toList, List.getElem_toArray, List.getElem_cons_zero, List.getElem_cons_succ]
  refine wpAnyH_take (i := 18) (v := ?v143) rfl (by kernel_rfl) (by kernel_rfl) (by kernel_rfl) (fun _ _ _ h => h) (Or.inl ⟨by rfl, ?hy143⟩) hHeld ?rest143
  case hy143 =>
    intro w hSw
    go_simp
    try with_reducible rfl
  try simp only [Act.put, List.setIfInBounds_toArray, List.set_cons_zero, List.set_cons_succ, Array.toArray_toList, List.getElem_toArray, List.getElem_cons_zero, List.getElem_cons_succ]
  refine wpAnyH_take (i := 19) (v := ?v144) rfl (by kernel_rfl) (by kernel_rfl) (by kernel_rfl) (fun _ _ _ h => h) (Or.inl ⟨by rfl, ?hy144⟩) hHeld ?rest144
  case hy144 =>
    intro w hSw
    have ld := (below_cell hSw (by rw [← EG.out]; exact HGP.out)).trans L7.out
    go_simp
    try with_reducible rfl
  try simp only [Act.put, List.setIfInBounds_toArray, List.set_cons_zero, List.set_cons_succ, Array.toArray_toList, List.getElem_toArray, List.getElem_cons_zero, List.getElem_cons_succ]
  refine wpAnyH_ready (rs := [3, 22]) (by kernel_rfl) (by simp) ?_
  refine AllReadyH.cons rfl (fun K hK => ?_) (AllReadyH.cons rfl (fun K hK => ?_) AllReadyH.nil)
  · go_simp
    refine (HN2.out _ (by rw [EG.out]; exact HWE.out)).mono ?_
    rintro e w2 ⟨rfl, rfl⟩
    dsimp only
    refine hK.out _ _ HWE.out (fun hHeld => ?_)
    clear hK K
    try simp only [Act.put, List.setIfInBounds_toArray, List.set_cons_zero, List.set_cons_succ, Array.toArray_toList, List.getElem_toArray, List.getElem_cons_zero, List.getElem_cons_succ]
    refine wpAnyH_ready (rs := [8, 22]) (by kernel_rfl) (by simp) ?_
    refine AllReadyH.cons rfl (fun K hK => ?_) (AllReadyH.cons rfl (fun K hK => ?_) AllReadyH.nil)
    · go_simp
      refine (HN4.out _ (by rw [EG.out]; exact HWE.out)).mono ?_
      rintro e w2 ⟨rfl, rfl⟩
      dsimp only
      refine hK.out _ _ HWE.out (fun hHeld => ?_)
      clear hK K
      try simp only [Act.put, List.setIfInBounds_toArray, List.set_cons_zero, List.set_cons_succ, Array.toArray_toList, List.getElem_toArray, List.getElem_cons_zero, List.getElem_cons_succ]
      refine wpAnyH_ready (rs := [12, 22]) (by kernel_rfl) (by simp) ?_
      refine AllReadyH.cons rfl (fun K hK => ?_) (AllReadyH.cons rfl (fun K hK => ?_) AllReadyH.nil)
      · go_simp
        refine (HN5.out _ (by rw [EG.out]; exact HWE.out)).mono ?_
        rintro e w2 ⟨rfl, rfl⟩
        dsimp only
        refine hK.out _ _ HWE.out (fun hHeld => ?_)
        clear hK K
        try simp only [Act.put, List.setIfInBounds_toArray, List.set_cons_zero, List.set_cons_succ, Array.toArray_toList, List.getElem_toArray, List.getElem_cons_zero, List.getElem_cons_succ]
        refine wpAnyH_ready (rs := [16, 22]) (by kernel_rfl) (by simp) ?_
        refine AllReadyH.cons rfl (fun K hK => ?_) (AllReadyH.cons rfl (fun K hK => ?_) AllReadyH.nil)
        · go_simp
          refine (HN6.out _ (by rw [EG.out]; exact HWE.out)).mono ?_
          rintro e w2 ⟨rfl, rfl⟩
          dsimp only
          refine hK.out _ _ HWE.out (fun hHeld => ?_)
          clear hK K
          try simp only [Act.put, List.setIfInBounds_toArray, List.set_cons_zero, List.set_cons_succ, Array.toArray_toList, List.getElem_toArray, List.getElem_cons_zero, List.getElem_cons_succ]
          refine wpAnyH_ready (rs := [20, 22]) (by kernel_rfl) (by simp) ?_
          refine AllReadyH.cons rfl (fun K hK => ?_) (AllReadyH.cons rfl (fun K hK => ?_) AllReadyH.nil)
          · go_simp
            refine (HN7.out _ (by rw [EG.out]; exact HWE.out)).mono ?_
            rintro e w2 ⟨rfl, rfl⟩
            dsimp only
            refine hK.out _ _ HWE.out (fun hHeld => ?_)
            clear hK K
            try simp only [Act.put, List.setIfInBounds_toArray, List.set_cons_zero, List.set_cons_succ, Array.toArray_toList, List.getElem_toArray, List.getElem_cons_zero, List.getElem_cons_succ]
            refine wpAnyH_take (i := 21) (v := ?v145) rfl (by kernel_rfl) (by kernel_rfl) (by kernel_rfl) (fun _ _ _ h => h) (Or.inl ⟨by rfl, ?hy145⟩) hHeld ?rest145
            case hy145 =>
              intro w hSw
              go_simp
              try with_reducible rfl
            try simp only [Act.put, List.setIfInBounds_toArray, List.set_cons_zero, List.set_cons_succ, Array.toArray_toList, List.getElem_toArray, List.getElem_cons_zero, List.getElem_cons_succ]
            refine wpAnyH_ready (rs := [22]) (by kernel_rfl) (by simp) ?_
            refine AllReadyH.cons rfl (fun K hK => ?_) AllReadyH.nil
            go_simp
            refine hK.out _ _ HAL.out (fun hHeld => ?_)
            clear hK K
            try simp only [Act.put, List.setIfInBounds_toArray, List.set_cons_zero, List.set_cons_succ, Array.toArray_toList, List.getElem_toArray, List.getElem_cons_zero, List.getElem_cons_succ]
            refine wpAnyH_ready (rs := [23]) (by kernel_rfl) (by simp) ?_
            refine AllReadyH.cons rfl (fun K hK => ?_) AllReadyH.nil
            go_simp
            refine hK.out _ _ HV0.out (fun hHeld => ?_)
            clear hK K
            try simp only [Act.put, List.setIfInBounds_toArray, List.set_cons_zero, List.set_cons_succ, Array.toArray_toList, List.getElem_toArray, List.getElem_cons_zero, List.getElem_cons_succ]
            refine wpAnyH_done (by kernel_rfl) ?_ _
            refine NoPanic.normal ?_
            go_upto_region 8 with fail
            clear bd sv hV0 egd z
            have hsrc0 : ∀ j, j < 48 → (V0.drew).cell? (Addr.add ⟨b0, o0, none⟩ j) = some (.int .u8 (m (0 + j))) := fun j hj => by
              obtain ⟨b', o', e', _, _, h'⟩ := bys_at (Q0.out.below (w' := V0.drew) (by rw [EG.out]; exact HV0.out.drew)) (by omega)
              cases e'
              rw [Addr.add_mid]
              exact h' j hj
            have HCP0 := hid (copy_seg V0.drew g 0 48 (sValidator ⟨fun _ => 0, fun _ => 0, N2, N3, N4, N5, N6, N7⟩) (sValidator ⟨fun q => m (0 + q), fun _ => 0, N2, N3, N4, N5, N6, N7⟩) (fun q => m (0 + q)) ⟨b0, o0, none⟩ c0 48 53 RV0.out (by rw [slValidator]; omega) hsrc0 (by kernel_rfl))
            clear hsrc0
            refine wp_region_noPanic ?_
            refine wp_region_held_drew (S := fun X => Below g w1 X) (by kernel_rfl) (HV0.out.drew) (fun hHeld => ?_)
            refine wpAnyH_take (i := 0) (v := ?v146) rfl (by kernel_rfl) (by kernel_rfl) (by kernel_rfl) (fun _ _ _ h => h) (Or.inl ⟨by rfl, ?hy146⟩) hHeld ?rest146
            case hy146 =>
              intro w hSw
              go_simp
              try with_reducible rfl
            try simp only [Act.put, List.setIfInBounds_toArray, List.set_cons_zero, List.set_cons_succ, Array.toArray_toList, List.getElem_toArray, List.getElem_cons_zero, List.getElem_cons_succ]
            refine wpAnyH_take (i := 1) (v := ?v147) rfl (by kernel_rfl) (by kernel_rfl) (by kernel_rfl) (fun _ _ _ h => h) (Or.inl ⟨by rfl, ?hy147⟩) hHeld ?rest147
            case hy147 =>
              intro w hSw
              go_simp
              try with_reducible rfl
            try simp only [Act.put, List.setIfInBounds_toArray, List.set_cons_zero, List.set_cons_succ, Array.toArray_toList, List.getElem_toArray, List.getElem_cons_zero, List.getElem_cons_succ]
            refine wpAnyH_take (i := 2) (v := ?v148) rfl (by kernel_rfl) (by kernel_rfl) (by kernel_rfl) (fun _ _ _ h => h) (Or.inl ⟨by rfl, ?hy148⟩) hHeld ?rest148
            case hy148 =>
              intro w hSw
              go_simp
              try with_reducible rfl
            try simp only [Act.put, List.setIfInBounds_toArray, List.set_cons_zero, List.set_cons_succ, Array.toArray_toList, List.getElem_toArray, List.getElem_cons_zero, List.getElem_cons_succ]
            refine wpAnyH_take (i := 3) (v := ?v149) rfl (by kernel_rfl) (by kernel_rfl) (by kernel_rfl) (fun _ _ _ h => h) (Or.inl ⟨by rfl, ?hy149⟩) hHeld ?rest149
            case hy149 =>
              intro w hSw
              go_simp
              try with_reducible rfl
            try simp only [Act.put, List.setIfInBounds_toArray, List.set_cons_zero, List.set_cons_succ, Array.toArray_toList, List.getElem_toArray, List.getElem_cons_zero, List.getElem_cons_succ]
            refine wpAnyH_take (i := 4) (v := ?v150) rfl (by kernel_rfl) (by kernel_rfl) (by kernel_rfl) (fun _ _ _ h => h) (Or.inl ⟨by rfl, ?hy150⟩) hHeld ?rest150
            case hy150 =>
              intro w hSw
              have ld := (below_cell hSw (by rw [← EG.out]; exact HGP.out)).trans L0.out
              go_simp
              try with_reducible rfl
            try simp only [Act.put, List.setIfInBounds_toArray, List.set_cons_zero, List.set_cons_succ, Array.toArray_toList, List.getElem_toArray, List.getElem_cons_zero, List.getElem_cons_succ]
            refine wpAnyH_ready (rs := [5]) (by kernel_rfl) (by simp) ?_
            refine AllReadyH.cons rfl (fun K hK => ?_) AllReadyH.nil
            refine step_copy_is (by rfl) _ _ 27 27 (by rfl) _ _ _ _ (by rfl) (by rfl) HCP0.out ?_
            refine hK.out _ _ (below_row HV0.out.drew (Nat.le_refl _) _) (fun hHeld => ?_)
            clear hK K
            try simp only [Act.put, List.setIfInBounds_toArray, List.set_cons_zero, List.set_cons_succ, Array.toArray_toList, List.getElem_toArray, List.getElem_cons_zero, List.getElem_cons_succ]
            refine wpAnyH_done (by kernel_rfl) ?_ _
            refine NoPanic.normal ?_
            obtain ⟨V1, hV1⟩ : ∃ V, (V0.drew).setRow g (cel (sValidator ⟨fun q => m (0 + q), fun _ => 0, N2, N3, N4, N5, N6, N7⟩)) = V := ⟨_, rfl⟩
            have RV1 : Hid (V1.heap[g]? = some (.cells (cel (sValidator ⟨fun q => m (0 + q), fun _ => 0, N2, N3, N4, N5, N6, N7⟩)) 53)) := by rw [← hV1]; exact setRow_at (w := V0.drew) RV0.out
            have HV1 : Hid (Below g w1 V1) := by rw [← hV1]; exact below_row HV0.out.drew (Nat.le_refl _) _
            rw [hV1]
            clear hV1
            go_upto_region 9 with fail
            have hsrc1 : ∀ j, j < 32 → (V1.drew).cell? (Addr.add ⟨b1, o1, none⟩ j) = some (.int .u8 (m (48 + j))) := fun j hj => by
              obtain ⟨b', o', e', _, _, h'⟩ := bys_at (Q1.out.below (w' := V1.drew) (by rw [EG.out]; exact HV1.out.drew)) (by omega)
              cases e'
              rw [Addr.add_mid]
              exact h' j hj
            have HCP1 := hid (copy_seg V1.drew g 48 32 (sValidator ⟨fun q => m (0 + q), fun _ => 0, N2, N3, N4, N5, N6, N7⟩) (sValidator ⟨fun q => m (0 + q), fun q => m (48 + q), N2, N3, N4, N5, N6, N7⟩) (fun q => m (48 + q)) ⟨b1, o1, none⟩ c1 32 53 RV1.out (by rw [slValidator]; omega) hsrc1 (by kernel_rfl))
            clear hsrc1
            refine wp_region_noPanic ?_
            refine wp_region_held_drew (S := fun X => Below g w1 X) (by kernel_rfl) (HV1.out.drew) (fun hHeld => ?_)
            refine wpAnyH_take (i := 0) (v := ?v151) rfl (by kernel_rfl) (by kernel_rfl) (by kernel_rfl) (fun _ _ _ h => h) (Or.inl ⟨by rfl, ?hy151⟩) hHeld ?rest151
            case hy151 =>
              intro w hSw
              go_simp
              try with_reducible rfl
            try simp only [Act.put, List.setIfInBounds_toArray, List.set_cons_zero, List.set_cons_succ, Array.toArray_toList, List.getElem_toArray, List.getElem_cons_zero, List.getElem_cons_succ]
            refine wpAnyH_take (i := 1) (v := ?v152) rfl (by kernel_rfl) (by kernel_rfl) (by kernel_rfl) (fun _ _ _ h => h) (Or.inl ⟨by rfl, ?hy152⟩) hHeld ?rest152
            case hy152 =>
              intro w hSw
              go_simp
              try with_reducible rfl
            try simp only [Act.put, List.setIfInBounds_toArray, List.set_cons_zero, List.set_cons_succ, Array.toArray_toList, List.getElem_toArray, List.getElem_cons_zero, List.getElem_cons_succ]
            refine wpAnyH_take (i := 2) (v := ?v153) rfl (by kernel_rfl) (by kernel_rfl) (by kernel_rfl) (fun _ _ _ h => h) (Or.inl ⟨by rfl, ?hy153⟩) hHeld ?rest153
            case hy153 =>
              intro w hSw
              go_simp
              try with_reducible rfl
            try simp only [Act.put, List.setIfInBounds_toArray, List.set_cons_zero, List.set_cons_succ, Array.toArray_toList, List.getElem_toArray, List.getElem_cons_zero, List.getElem_cons_succ]
            refine wpAnyH_take (i := 3) (v := ?v154) rfl (by kernel_rfl) (by kernel_rfl) (by kernel_rfl) (fun _ _ _ h => h) (Or.inl ⟨by rfl, ?hy154⟩) hHeld ?rest154
            case hy154 =>
              intro w hSw
              go_simp
              try with_reducible rfl
            try simp only [Act.put, List.setIfInBounds_toArray, List.set_cons_zero, List.set_cons_succ, Array.toArray_toList, List.getElem_toArray, List.getElem_cons_zero, List.getElem_cons_succ]
            refine wpAnyH_take (i := 4) (v := ?v155) rfl (by kernel_rfl) (by kernel_rfl) (by kernel_rfl) (fun _ _ _ h => h) (Or.inl ⟨by rfl, ?hy155⟩) hHeld ?rest155
            case hy155 =>
              intro w hSw
              have ld := (below_cell hSw (by rw [← EG.out]; exact HGP.out)).trans L1.out
              go_simp
              try with_reducible rfl
            try simp only [Act.put, List.setIfInBounds_toArray, List.set_cons_zero, List.set_cons_succ, Array.toArray_toList, List.getElem_toArray, List.getElem_cons_zero, List.getElem_cons_succ]
            refine wpAnyH_ready (rs := [5]) (by kernel_rfl) (by simp) ?_
            refine AllReadyH.cons rfl (fun K hK => ?_) AllReadyH.nil
            refine step_copy_is (by rfl) _ _ 27 27 (by rfl) _ _ _ _ (by rfl) (by rfl) HCP1.out ?_
            refine hK.out _ _ (below_row HV1.out.drew (Nat.le_refl _) _) (fun hHeld => ?_)
            clear hK K
            try simp only [Act.put, List.setIfInBounds_toArray, List.set_cons_zero, List.set_cons_succ, Array.toArray_toList, List.getElem_toArray, List.getElem_cons_zero, List.getElem_cons_succ]
            refine wpAnyH_done (by kernel_rfl) ?_ _
            refine NoPanic.normal ?_
            obtain ⟨V2, hV2⟩ : ∃ V, (V1.drew).setRow g (cel (sValidator ⟨fun q => m (0 + q), fun q => m (48 + q), N2, N3, N4, N5, N6, N7⟩)) = V := ⟨_, rfl⟩
            have RV2 : Hid (V2.heap[g]? = some (.cells (cel (sValidator ⟨fun q => m (0 + q), fun q => m (48 + q), N2, N3, N4, N5, N6, N7⟩)) 53)) := by rw [← hV2]; exact setRow_at (w := V1.drew) RV1.out
            have HV2 : Hid (Below g w1 V2) := by rw [← hV2]; exact below_row HV1.out.drew (Nat.le_refl _) _
            rw [hV2]
            clear hV2
            obtain ⟨vv, ev⟩ : ∃ v : VValidator, ⟨fun q => m (0 + q), fun q => m (48 + q), N2, N3, N4, N5, N6, N7⟩ = v := ⟨_, rfl⟩
            have rv := RV2.out
            rw [ev] at rv
            have rr : V2.heap[y]? = some (.cells (cel (sValidator oValidator)) 53) := (HV2.out.block _ (by rw [← EG.out]; exact Nat.lt_of_lt_of_le HY.out HB1.out.size)).trans ((HB1.out.block _ HY.out).trans R2.out)
            have sv := svValidator_run rr vv
            have lv := lvValidator_mid (x := vv) rv 0 (take_all _) rfl
            have RR := hid rr
            have EV := hid ev
            clear rr rv ev
            go_wp2
            refine retValidator _ _ y vv 53 _ rfl rfl rfl rfl (setRow_at RR.out) ⟨?_, ?_⟩
            · rw [← EV.out, ← EN2.out, ← EN3.out, ← EN4.out, ← EN5.out, ← EN6.out, ← EN7.out]
              rfl
            have e0 := EY.out
            have e1 := HB2.out.size
            have e2 := HB1.out.size
            have e3 := EG.out
            exact below_row (HB2.out.trans ((HB1.out.mono (by omega)).trans (HV2.out.mono (by omega)))) (by omega) _
          · go_simp
            refine hK.out _ _ HAL.out (fun hHeld => ?_)
            clear hK K
            try simp only [Act.put, List.setIfInBounds_toArray, List.set_cons_zero, List.set_cons_succ, Array.toArray_toList, List.getElem_toArray, List.getElem_cons_zero, List.getElem_cons_succ]
            refine wpAnyH_ready (rs := [20]) (by kernel_rfl) (by simp) ?_
            refine AllReadyH.cons rfl (fun K hK => ?_) AllReadyH.nil
            go_simp
            refine (HN7.out _ (by rw [EG.out]; exact HAL.out)).mono ?_
            rintro e w2 ⟨rfl, rfl⟩
            dsimp only
            refine hK.out _ _ HAL.out (fun hHeld => ?_)
            clear hK K
            try simp only [Act.put, List.setIfInBounds_toArray, List.set_cons_zero, List.set_cons_succ, Array.toArray_toList, List.getElem_toArray, List.getElem_cons_zero, List.getElem_cons_succ]
            refine wpAnyH_take (i := 21) (v := ?v156) rfl (by kernel_rfl) (by kernel_rfl) (by kernel_rfl) (fun _ _ _ h => h) (Or.inl ⟨by rfl, ?hy156⟩) hHeld ?rest156
            case hy156 =>
              intro w hSw
              go_simp
              try with_reducible rfl
            try simp only [Act.put, List.setIfInBounds_toArray, List.set_cons_zero, List.set_cons_succ, Array.toArray_toList, List.getElem_toArray, List.getElem_cons_zero, List.getElem_cons_succ]
            refine wpAnyH_ready (rs := [23]) (by kernel_rfl) (by simp) ?_
            refine AllReadyH.cons rfl (fun K hK => ?_) AllReadyH.nil
            go_simp
            refine hK.out _ _ HV0.out (fun hHeld => ?_)
            clear hK K
            try simp only [Act.put, List.setIfInBounds_toArray, List.set_cons_zero, List.set_cons_succ, Array.toArray_toList, List.getElem_toArray, List.getElem_cons_zero, List.getElem_cons_succ]
            refine wpAnyH_done (by kernel_rfl) ?_ _
            refine NoPanic.normal ?_
            go_upto_region 8 with fail
            clear bd sv hV0 egd z
            have hsrc0 : ∀ j, j < 48 → (V0.drew).cell? (Addr.add ⟨b0, o0, none⟩ j) = some (.int .u8 (m (0 + j))) := fun j hj => by
              obtain ⟨b', o', e', _, _, h'⟩ := bys_at (Q0.out.below (w' := V0.drew) (by rw [EG.out]; exact HV0.out.drew)) (by omega)
              cases e'
              rw [Addr.add_mid]
              exact h' j hj
            have HCP0 := hid (copy_seg V0.drew g 0 48 (sValidator ⟨fun _ => 0, fun _ => 0, N2, N3, N4, N5, N6, N7⟩) (sValidator ⟨fun q => m (0 + q), fun _ => 0, N2, N3, N4, N5, N6, N7⟩) (fun q => m (0 + q)) ⟨b0, o0, none⟩ c0 48 53 RV0.out (by rw [slValidator]; omega) hsrc0 (by kernel_rfl))
            clear hsrc0
            refine wp_region_noPanic ?_
            refine wp_region_held_drew (S := fun X => Below g w1 X) (by kernel_rfl) (HV0.out.drew) (fun hHeld => ?_)
            refine wpAnyH_take (i := 0) (v := ?v157) rfl (by kernel_rfl) (by kernel_rfl) (by kernel_rfl) (fun _ _ _ h => h) (Or.inl ⟨by rfl, ?hy157⟩) hHeld ?rest157
            case hy157 =>
              intro w hSw
              go_simp
              try with_reducible rfl
            try simp only [Act.put, List.setIfInBounds_toArray, List.set_cons_zero, List.set_cons_succ, Array.toArray_toList, List.getElem_toArray, List.getElem_cons_zero, List.getElem_cons_succ]
            refine wpAnyH_take (i := 1) (v := ?v158) rfl (by kernel_rfl) (by kernel_rfl) (by kernel_rfl) (fun _ _ _ h => h) (Or.inl ⟨by rfl, ?hy158⟩) hHeld ?rest158
            case hy158 =>
              intro w hSw
              go_simp
              try with_reducible rfl
            try simp only [Act.put, List.setIfInBounds_toArray, List.set_cons_zero, List.set_cons_succ, Array.toArray_toList, List.getElem_toArray, List.getElem_cons_zero, List.getElem_cons_succ]
            refine wpAnyH_take (i := 2) (v := ?v159) rfl (by kernel_rfl) (by kernel_rfl) (by kernel_rfl) (fun _ _ _ h => h) (Or.inl ⟨by rfl, ?hy159⟩) hHeld ?rest159
            case hy159 =>
              intro w hSw
              go_simp
              try with_reducible rfl
            try simp only [Act.put, List.setIfInBounds_toArray, List.set_cons_zero, List.set_cons_succ, Array.toArray_toList, List.getElem_toArray, List.getElem_cons_zero, List.getElem_cons_succ]
            refine wpAnyH_take (i := 3) (v := ?v160) rfl (by kernel_rfl) (by kernel_rfl) (by kernel_rfl) (fun _ _ _ h => h) (Or.inl ⟨by rfl, ?hy160⟩) hHeld ?rest160
            case hy160 =>
              intro w hSw
              go_simp
              try with_reducible rfl
            try simp only [Act.put, List.setIfInBounds_toArray, List.set_cons_zero, List.set_cons_succ, Array.toArray_toList, List.getElem_toArray, List.getElem_cons_zero, List.getElem_cons_succ]
            refine wpAnyH_take (i := 4) (v := ?v161) rfl (by kernel_rfl) (by kernel_rfl) (by kernel_rfl) (fun _ _ _ h => h) (Or.inl ⟨by rfl, ?hy161⟩) hHeld ?rest161
            case hy161 =>
              intro w hSw
              have ld := (below_cell hSw (by rw [← EG.out]; exact HGP.out)).trans L0.out
              go_simp
              try with_reducible rfl
            try simp only [Act.put, List.setIfInBounds_toArray, List.set_cons_zero, List.set_cons_succ, Array.toArray_toList, List.getElem_toArray, List.getElem_cons_zero, List.getElem_cons_succ]
            refine wpAnyH_ready (rs := [5]) (by kernel_rfl) (by simp) ?_
            refine AllReadyH.cons rfl (fun K hK => ?_) AllReadyH.nil
            refine step_copy_is (by rfl) _ _ 27 27 (by rfl) _ _ _ _ (by rfl) (by rfl) HCP0.out ?_
            refine hK.out _ _ (below_row HV0.out.drew (Nat.le_refl _) _) (fun hHeld => ?_)
            clear hK K
            try simp only [Act.put, List.setIfInBounds_toArray, List.set_cons_zero, List.set_cons_succ, Array.toArray_toList, List.getElem_toArray, List.getElem_cons_zero, List.getElem_cons_succ]
            refine wpAnyH_done (by kernel_rfl) ?_ _
            refine NoPanic.normal ?_
            obtain ⟨V1, hV1⟩ : ∃ V, (V0.drew).setRow g (cel (sValidator ⟨fun q => m (0 + q), fun _ => 0, N2, N3, N4, N5, N6, N7⟩)) = V := ⟨_, rfl⟩
            have RV1 : Hid (V1.heap[g]? = some (.cells (cel (sValidator ⟨fun q => m (0 + q), fun _ => 0, N2, N3, N4, N5, N6, N7⟩)) 53)) := by rw [← hV1]; exact setRow_at (w := V0.drew) RV0.out
            have HV1 : Hid (Below g w1 V1) := by rw [← hV1]; exact below_row HV0.out.drew (Nat.le_refl _) _
            rw [hV1]
            clear hV1
            go_upto_region 9 with fail
            have hsrc1 : ∀ j, j < 32 → (V1.drew).cell? (Addr.add ⟨b1, o1, none⟩ j) = some (.int .u8 (m (48 + j))) := fun j hj => by
              obtain ⟨b', o', e', _, _, h'⟩ := bys_at (Q1.out.below (w' := V1.drew) (by rw [EG.out]; exact HV1.out.drew)) (by omega)
              cases e'
              rw [Addr.add_mid]
              exact h' j hj
            have HCP1 := hid (copy_seg V1.drew g 48 32 (sValidator ⟨fun q => m (0 + q), fun _ => 0, N2, N3, N4, N5, N6, N7⟩) (sValidator ⟨fun q => m (0 + q), fun q => m (48 + q), N2, N3, N4, N5, N6, N7⟩) (fun q => m (48 + q)) ⟨b1, o1, none⟩ c1 32 53 RV1.out (by rw [slValidator]; omega) hsrc1 (by kernel_rfl))
            clear hsrc1
            refine wp_region_noPanic ?_
            refine wp_region_held_drew (S := fun X => Below g w1 X) (by kernel_rfl) (HV1.out.drew) (fun hHeld => ?_)
            refine wpAnyH_take (i := 0) (v := ?v162) rfl (by kernel_rfl) (by kernel_rfl) (by kernel_rfl) (fun _ _ _ h => h) (Or.inl ⟨by rfl, ?hy162⟩) hHeld ?rest162
            case hy162 =>
              intro w hSw
              go_simp
              try with_reducible rfl
            try simp only [Act.put, List.setIfInBounds_toArray, List.set_cons_zero, List.set_cons_succ, Array.toArray_toList, List.getElem_toArray, List.getElem_cons_zero, List.getElem_cons_succ]
            refine wpAnyH_take (i := 1) (v := ?v163) rfl (by kernel_rfl) (by kernel_rfl) (by kernel_rfl) (fun _ _ _ h => h) (Or.inl ⟨by rfl, ?hy163⟩) hHeld ?rest163
            case hy163 =>
              intro w hSw
              go_simp
              try with_reducible rfl
            try simp only [Act.put, List.setIfInBounds_toArray, List.set_cons_zero, List.set_cons_succ, Array.toArray_toList, List.getElem_toArray, List.getElem_cons_zero, List.getElem_cons_succ]
            refine wpAnyH_take (i := 2) (v := ?v164) rfl (by kernel_rfl) (by kernel_rfl) (by kernel_rfl) (fun _ _ _ h => h) (Or.inl ⟨by rfl, ?hy164⟩) hHeld ?rest164
            case hy164 =>
              intro w hSw
              go_simp
              try with_reducible rfl
            try simp only [Act.put, List.setIfInBounds_toArray, List.set_cons_zero, List.set_cons_succ, Array.toArray_toList, List.getElem_toArray, List.getElem_cons_zero, List.getElem_cons_succ]
            refine wpAnyH_take (i := 3) (v := ?v165) rfl (by kernel_rfl) (by kernel_rfl) (by kernel_rfl) (fun _ _ _ h => h) (Or.inl ⟨by rfl, ?hy165⟩) hHeld ?rest165
            case hy165 =>
              intro w hSw
              go_simp
              try with_reducible rfl
            try simp only [Act.put, List.setIfInBounds_toArray, List.set_cons_zero, List.set_cons_succ, Array.toArray_toList, List.getElem_toArray, List.getElem_cons_zero, List.getElem_cons_succ]
            refine wpAnyH_take (i := 4) (v := ?v166) rfl (by kernel_rfl) (by kernel_rfl) (by kernel_rfl) (fun _ _ _ h => h) (Or.inl ⟨by rfl, ?hy166⟩) hHeld ?rest166
            case hy166 =>
              intro w hSw
              have ld := (below_cell hSw (by rw [← EG.out]; exact HGP.out)).trans L1.out
              go_simp
              try with_reducible rfl
            try simp only [Act.put, List.setIfInBounds_toArray, List.set_cons_zero, List.set_cons_succ, Array.toArray_toList, List.getElem_toArray, List.getElem_cons_zero, List.getElem_cons_succ]
            refine wpAnyH_ready (rs := [5]) (by kernel_rfl) (by simp) ?_
            refine AllReadyH.cons rfl (fun K hK => ?_) AllReadyH.nil
            refine step_copy_is (by rfl) _ _ 27 27 (by rfl) _ _ _ _ (by rfl) (by rfl) HCP1.out ?_
            refine hK.out _ _ (below_row HV1.out.drew (Nat.le_refl _) _) (fun hHeld => ?_)
            clear hK K
            try simp only [Act.put, List.setIfInBounds_toArray, List.set_cons_zero, List.set_cons_succ, Array.toArray_toList, List.getElem_toArray, List.getElem_cons_zero, List.getElem_cons_succ]
            refine wpAnyH_done (by kernel_rfl) ?_ _
            refine NoPanic.normal ?_
            obtain ⟨V2, hV2⟩ : ∃ V, (V1.drew).setRow g (cel (sValidator ⟨fun q => m (0 + q), fun q => m (48 + q), N2, N3, N4, N5, N6, N7⟩)) = V := ⟨_, rfl⟩
            have RV2 : Hid (V2.heap[g]? = some (.cells (cel (sValidator ⟨fun q => m (0 + q), fun q => m (48 + q), N2, N3, N4, N5, N6, N7⟩)) 53)) := by rw [← hV2]; exact setRow_at (w := V1.drew) RV1.out
            have HV2 : Hid (Below g w1 V2) := by rw [← hV2]; exact below_row HV1.out.drew (Nat.le_refl _) _
            rw [hV2]
            clear hV2
            obtain ⟨vv, ev⟩ : ∃ v : VValidator, ⟨fun q => m (0 + q), fun q => m (48 + q), N2, N3, N4, N5, N6, N7⟩ = v := ⟨_, rfl⟩
            have rv := RV2.out
            rw [ev] at rv
            have rr : V2.heap[y]? = some (.cells (cel (sValidator oValidator)) 53) := (HV2.out.block _ (by rw [← EG.out]; exact Nat.lt_of_lt_of_le HY.out HB1.out.size)).trans ((HB1.out.block _ HY.out).trans R2.out)
            have sv := svValidator_run rr vv
            have lv := lvValidator_mid (x := vv) rv 0 (take_all _) rfl
            have RR := hid rr
            have EV := hid ev
            clear rr rv ev
            go_wp2
            refine retValidator _ _ y vv 53 _ rfl rfl rfl rfl (setRow_at RR.out) ⟨?_, ?_⟩
            · rw [← EV.out, ← EN2.out, ← EN3.out, ← EN4.out, ← EN5.out, ← EN6.out, ← EN7.out]
              rfl
            have e0 := EY.out
            have e1 := HB2.out.size
            have e2 := HB1.out.size
            have e3 := EG.out
            exact below_row (HB2.out.trans ((HB1.out.mono (by omega)).trans (HV2.out.mono (by omega)))) (by omega) _
        · go_simp
          refine hK.out _ _ HAL.out (fun hHeld => ?_)
          clear hK K
          try simp only [Act.put, List.setIfInBounds_toArray, List.set_cons_zero, List.set_cons_succ, Array.toArray_toList, List.getElem_toArray, List.getElem_cons_zero, List.getElem_cons_succ]
          refine wpAnyH_ready (rs := [16]) (by kernel_rfl) (by simp) ?_
          refine AllReadyH.cons rfl (fun K hK => ?_) AllReadyH.nil
          go_simp
          refine (HN6.out _ (by rw [EG.out]; exact HAL.out)).mono ?_
          rintro e w2 ⟨rfl, rfl⟩
          dsimp only
          refine hK.out _ _ HAL.out (fun hHeld => ?_)
          clear hK K
          try simp only [Act.put, List.setIfInBounds_toArray, List.set_cons_zero, List.set_cons_succ, Array.toArray_toList, List.getElem_toArray, List.getElem_cons_zero, List.getElem_cons_succ]
          refine wpAnyH_ready (rs := [20]) (by kernel_rfl) (by simp) ?_
          refine AllReadyH.cons rfl (fun K hK => ?_) AllReadyH.nil
          go_simp
          refine (HN7.out _ (by rw [EG.out]; exact HAL.out)).mono ?_
          rintro e w2 ⟨rfl, rfl⟩
          dsimp only
          refine hK.out _ _ HAL.out (fun hHeld => ?_)
          clear hK K
          try simp only [Act.put, List.setIfInBounds_toArray, List.set_cons_zero, List.set_cons_succ, Array.toArray_toList, List.getElem_toArray, List.getElem_cons_zero, List.getElem_cons_succ]
          refine wpAnyH_take (i := 21) (v := ?v167) rfl (by kernel_rfl) (by kernel_rfl) (by kernel_rfl) (fun _ _ _ h => h) (Or.inl ⟨by rfl, ?hy167⟩) hHeld ?rest167
          case hy167 =>
            intro w hSw
            go_simp
            try with_reducible rfl
          try simp only [Act.put, List.setIfInBounds_toArray, List.set_cons_zero, List.set_cons_succ, Array.toArray_toList, List.getElem_toArray, List.getElem_cons_zero, List.getElem_cons_succ]
          refine wpAnyH_ready (rs := [23]) (by kernel_rfl) (by simp) ?_
          refine AllReadyH.cons rfl (fun K hK => ?_) AllReadyH.nil
          go_simp
          refine hK.out _ _ HV0.out (fun hHeld => ?_)
          clear hK K
          try simp only [Act.put, List.setIfInBounds_toArray, List.set_cons_zero, List.set_cons_succ, Array.toArray_toList, List.getElem_toArray, List.getElem_cons_zero, List.getElem_cons_succ]
          refine wpAnyH_done (by kernel_rfl) ?_ _
          refine NoPanic.normal ?_
          go_upto_region 8 with fail
          clear bd sv hV0 egd z
          have hsrc0 : ∀ j, j < 48 → (V0.drew).cell? (Addr.add ⟨b0, o0, none⟩ j) = some (.int .u8 (m (0 + j))) := fun j hj => by
            obtain ⟨b', o', e', _, _, h'⟩ := bys_at (Q0.out.below (w' := V0.drew) (by rw [EG.out]; exact HV0.out.drew)) (by omega)
            cases e'
            rw [Addr.add_mid]
            exact h' j hj
          have HCP0 := hid (copy_seg V0.drew g 0 48 (sValidator ⟨fun _ => 0, fun _ => 0, N2, N3, N4, N5, N6, N7⟩) (sValidator ⟨fun q => m (0 + q), fun _ => 0, N2, N3, N4, N5, N6, N7⟩) (fun q => m (0 + q)) ⟨b0, o0, none⟩ c0 48 53 RV0.out (by rw [slValidator]; omega) hsrc0 (by kernel_rfl))
          clear hsrc0
          refine wp_region_noPanic ?_
          refine wp_region_held_drew (S := fun X => Below g w1 X) (by kernel_rfl) (HV0.out.drew) (fun hHeld => ?_)
          refine wpAnyH_take (i := 0) (v := ?v168) rfl (by kernel_rfl) (by kernel_rfl) (by kernel_rfl) (fun _ _ _ h => h) (Or.inl ⟨by rfl, ?hy168⟩) hHeld ?rest168
          case hy168 =>
            intro w hSw
            go_simp
            try with_reducible rfl
          try simp only [Act.put, List.setIfInBounds_toArray, List.set_cons_zero, List.set_cons_succ, Array.toArray_toList, List.getElem_toArray, List.getElem_cons_zero, List.getElem_cons_succ]
          refine wpAnyH_take (i := 1) (v := ?v169) rfl (by kernel_rfl) (by kernel_rfl) (by kernel_rfl) (fun _ _ _ h => h) (Or.inl ⟨by rfl, ?hy169⟩) hHeld ?rest169
          case hy169 =>
            intro w hSw
            go_simp
            try with_reducible rfl
          try simp only [Act.put, List.setIfInBounds_toArray, List.set_cons_zero, List.set_cons_succ, Array.toArray_toList, List.getElem_toArray, List.getElem_cons_zero, List.getElem_cons_succ]
          refine wpAnyH_take (i := 2) (v := ?v170) rfl (by kernel_rfl) (by kernel_rfl) (by kernel_rfl) (fun _ _ _ h => h) (Or.inl ⟨by rfl, ?hy170⟩) hHeld ?rest170
          case hy170 =>
            intro w hSw
            go_simp
            try with_reducible rfl
          try simp only [Act.put, List.setIfInBounds_toArray, List.set_cons_zero, List.set_cons_succ, Array.toArray_toList, List.getElem_toArray, List.getElem_cons_zero, List.getElem_cons_succ]
          refine wpAnyH_take (i := 3) (v := ?v171) rfl (by kernel_rfl) (by kernel_rfl) (by kernel_rfl) (fun _ _ _ h => h) (Or.inl ⟨by rfl, ?hy171⟩) hHeld ?rest171
          case hy171 =>
            intro w hSw
            go_simp
            try with_reducible rfl
          try simp only [Act.put, List.setIfInBounds_toArray, List.set_cons_zero, List.set_cons_succ, Array.toArray_toList, List.getElem_toArray, List.getElem_cons_zero, List.getElem_cons_succ]
          refine wpAnyH_take (i := 4) (v := ?v172) rfl (by kernel_rfl) (by kernel_rfl) (by kernel_rfl) (fun _ _ _ h => h) (Or.inl ⟨by rfl, ?hy172⟩) hHeld ?rest172
          case hy172 =>
            intro w hSw
            have ld := (below_cell hSw (by rw [← EG.out]; exact HGP.out)).trans L0.out
            go_simp
            try with_reducible rfl
          try simp only [Act.put, List.setIfInBounds_toArray, List.set_cons_zero, List.set_cons_succ, Array.toArray_toList, List.getElem_toArray, List.getElem_cons_zero, List.getElem_cons_succ]
          refine wpAnyH_ready (rs := [5]) (by kernel_rfl) (by simp) ?_
          refine AllReadyH.cons rfl (fun K hK => ?_) AllReadyH.nil
          refine step_copy_is (by rfl) _ _ 27 27 (by rfl) _ _ _ _ (by rfl) (by rfl) HCP0.out ?_
          refine hK.out _ _ (below_row HV0.out.drew (Nat.le_refl _) _) (fun hHeld => ?_)
          clear hK K
          try simp only [Act.put, List.setIfInBounds_toArray, List.set_cons_zero, List.set_cons_succ, Array.toArray_toList, List.getElem_toArray, List.getElem_cons_zero, List.getElem_cons_succ]
          refine wpAnyH_done (by kernel_rfl) ?_ _
          refine NoPanic.normal ?_
          obtain ⟨V1, hV1⟩ : ∃ V, (V0.drew).setRow g (cel (sValidator ⟨fun q => m (0 + q), fun _ => 0, N2, N3, N4, N5, N6, N7⟩)) = V := ⟨_, rfl⟩
          have RV1 : Hid (V1.heap[g]? = some (.cells (cel (sValidator ⟨fun q => m (0 + q), fun _ => 0, N2, N3, N4, N5, N6, N7⟩)) 53)) := by rw [← hV1]; exact setRow_at (w := V0.drew) RV0.out
          have HV1 : Hid (Below g w1 V1) := by rw [← hV1]; exact below_row HV0.out.drew (Nat.le_refl _) _
          rw [hV1]
          clear hV1
          go_upto_region 9 with fail
          have hsrc1 : ∀ j, j < 32 → (V1.drew).cell? (Addr.add ⟨b1, o1, none⟩ j) = some (.int .u8 (m (48 + j))) := fun j hj => by
            obtain ⟨b', o', e', _, _, h'⟩ := bys_at (Q1.out.below (w' := V1.drew) (by rw [EG.out]; exact HV1.out.drew)) (by omega)
            cases e'
            rw [Addr.add_mid]
            exact h' j hj
          have HCP1 := hid (copy_seg V1.drew g 48 32 (sValidator ⟨fun q => m (0 + q), fun _ => 0, N2, N3, N4, N5, N6, N7⟩) (sValidator ⟨fun q => m (0 + q), fun q => m (48 + q), N2, N3, N4, N5, N6, N7⟩) (fun q => m (48 + q)) ⟨b1, o1, none⟩ c1 32 53 RV1.out (by rw [slValidator]; omega) hsrc1 (by kernel_rfl))
          clear hsrc1
          refine wp_region_noPanic ?_
          refine wp_region_held_drew (S := fun X => Below g w1 X) (by kernel_rfl) (HV1.out.drew) (fun hHeld => ?_)
          refine wpAnyH_take (i := 0) (v := ?v173) rfl (by kernel_rfl) (by kernel_rfl) (by kernel_rfl) (fun _ _ _ h => h) (Or.inl ⟨by rfl, ?hy173⟩) hHeld ?rest173
          case hy173 =>
            intro w hSw
            go_simp
            try with_reducible rfl
          try simp only [Act.put, List.setIfInBounds_toArray, List.set_cons_zero, List.set_cons_succ, Array.toArray_toList, List.getElem_toArray, List.getElem_cons_zero, List.getElem_cons_succ]
          refine wpAnyH_take (i := 1) (v := ?v174) rfl (by kernel_rfl) (by kernel_rfl) (by kernel_rfl) (fun _ _ _ h => h) (Or.inl ⟨by rfl, ?hy174⟩) hHeld ?rest174
          case hy174 =>
            intro w hSw
            go_simp
            try with_reducible rfl
          try simp only [Act.put, List.setIfInBounds_toArray, List.set_cons_zero, List.set_cons_succ, Array.toArray_toList, List.getElem_toArray, List.getElem_cons_zero, List.getElem_cons_succ]
          refine wpAnyH_take (i := 2) (v := ?v175) rfl (by kernel_rfl) (by kernel_rfl) (by kernel_rfl) (fun _ _ _ h => h) (Or.inl ⟨by rfl, ?hy175⟩) hHeld ?rest175
          case hy175 =>
            intro w hSw
            go_simp
            try with_reducible rfl
          try simp only [Act.put, List.setIfInBounds_toArray, List.set_cons_zero, List.set_cons_succ, Array.toArray_toList, List.getElem_toArray, List.getElem_cons_zero, List.getElem_cons_succ]
          refine wpAnyH_take (i := 3) (v := ?v176) rfl (by kernel_rfl) (by kernel_rfl) (by kernel_rfl) (fun _ _ _ h => h) (Or.inl ⟨by rfl, ?hy176⟩) hHeld ?rest176
          case hy176 =>
            intro w hSw
            go_simp
            try with_reducible rfl
          try simp only [Act.put, List.setIfInBounds_toArray, List.set_cons_zero, List.set_cons_succ, Array.toArray_toList, List.getElem_toArray, List.getElem_cons_zero, List.getElem_cons_succ]
          refine wpAnyH_take (i := 4) (v := ?v177) rfl (by kernel_rfl) (by kernel_rfl) (by kernel_rfl) (fun _ _ _ h => h) (Or.inl ⟨by rfl, ?hy177⟩) hHeld ?rest177
          case hy177 =>
            intro w hSw
            have ld := (below_cell hSw (by rw [← EG.out]; exact HGP.out)).trans L1.out
            go_simp
            try with_reducible rfl
          try simp only [Act.put, List.setIfInBounds_toArray, List.set_cons_zero, List.set_cons_succ, Array.toArray_toList, List.getElem_toArray, List.getElem_cons_zero, List.getElem_cons_succ]
          refine wpAnyH_ready (rs := [5]) (by kernel_rfl) (by simp) ?_
          refine AllReadyH.cons rfl (fun K hK => ?_) AllReadyH.nil
          refine step_copy_is (by rfl) _ _ 27 27 (by rfl) _ _ _ _ (by rfl) (by rfl) HCP1.out ?_
          refine hK.out _ _ (below_row HV1.out.drew (Nat.le_refl _) _) (fun hHeld => ?_)
          clear hK K
          try simp only [Act.put, List.setIfInBounds_toArray, List.set_cons_zero, List.set_cons_succ, Array.toArray_toList, List.getElem_toArray, List.getElem_cons_zero, List.getElem_cons_succ]
          refine wpAnyH_done (by kernel_rfl) ?_ _
          refine NoPanic.normal ?_
          obtain ⟨V2, hV2⟩ : ∃ V, (V1.drew).setRow g (cel (sValidator ⟨fun q => m (0 + q), fun q => m (48 + q), N2, N3, N4, N5, N6, N7⟩)) = V := ⟨_, rfl⟩
          have RV2 : Hid (V2.heap[g]? = some (.cells (cel (sValidator ⟨fun q => m (0 + q), fun q => m (48 + q), N2, N3, N4, N5, N6, N7⟩)) 53)) := by rw [← hV2]; exact setRow_at (w := V1.drew) RV1.out
          have HV2 : Hid (Below g w1 V2) := by rw [← hV2]; exact below_row HV1.out.drew (Nat.le_refl _) _
          rw [hV2]
          clear hV2
          obtain ⟨vv, ev⟩ : ∃ v : VValidator, ⟨fun q => m (0 + q), fun q => m (48 + q), N2, N3, N4, N5, N6, N7⟩ = v := ⟨_, rfl⟩
          have rv := RV2.out
          rw [ev] at rv
          have rr : V2.heap[y]? = some (.cells (cel (sValidator oValidator)) 53) := (HV2.out.block _ (by rw [← EG.out]; exact Nat.lt_of_lt_of_le HY.out HB1.out.size)).trans ((HB1.out.block _ HY.out).trans R2.out)
          have sv := svValidator_run rr vv
          have lv := lvValidator_mid (x := vv) rv 0 (take_all _) rfl
          have RR := hid rr
          have EV := hid ev
          clear rr rv ev
          go_wp2
          refine retValidator _ _ y vv 53 _ rfl rfl rfl rfl (setRow_at RR.out) ⟨?_, ?_⟩
          · rw [← EV.out, ← EN2.out, ← EN3.out, ← EN4.out, ← EN5.out, ← EN6.out, ← EN7.out]
            rfl
          have e0 := EY.out
          have e1 := HB2.out.size
          have e2 := HB1.out.size
          have e3 := EG.out
          exact below_row (HB2.out.trans ((HB1.out.mono (by omega)).trans (HV2.out.mono (by omega)))) (by omega) _
      · go_simp
        refine hK.out _ _ HAL.out (fun hHeld => ?_)
        clear hK K
        try simp only [Act.put, List.setIfInBounds_toArray, List.set_cons_zero, List.set_cons_succ, Array.toArray_toList, List.getElem_toArray, List.getElem_cons_zero, List.getElem_cons_succ]
        refine wpAnyH_ready (rs := [12]) (by kernel_rfl) (by simp) ?_
        refine AllReadyH.cons rfl (fun K hK => ?_) AllReadyH.nil
        go_simp
        refine (HN5.out _ (by rw [EG.out]; exact HAL.out)).mono ?_
        rintro e w2 ⟨rfl, rfl⟩
        dsimp only
        refine hK.out _ _ HAL.out (fun hHeld => ?_)
        clear hK K
        try simp only [Act.put, List.setIfInBounds_toArray, List.set_cons_zero, List.set_cons_succ, Array.toArray_toList, List.getElem_toArray, List.getElem_cons_zero, List.getElem_cons_succ]
        refine wpAnyH_ready (rs := [16]) (by kernel_rfl) (by simp) ?_
        refine AllReadyH.cons rfl (fun K hK => ?_) AllReadyH.nil
        go_simp
        refine (HN6.out _ (by rw [EG.out]; exact HAL.out)).mono ?_
        rintro e w2 ⟨rfl, rfl⟩
        dsimp only
        refine hK.out _ _ HAL.out (fun hHeld => ?_)
        clear hK K
        try simp only [Act.put, List.setIfInBounds_toArray, List.set_cons_zero, List.set_cons_succ, Array.toArray_toList, List.getElem_toArray, List.getElem_cons_zero, List.getElem_cons_succ]
        refine wpAnyH_ready (rs := [20]) (by kernel_rfl) (by simp) ?_
        refine AllReadyH.cons rfl (fun K hK => ?_) AllReadyH.nil
        go_simp
        refine (HN7.out _ (by rw [EG.out]; exact HAL.out)).mono ?_
        rintro e w2 ⟨rfl, rfl⟩
        dsimp only
        refine hK.out _ _ HAL.out (fun hHeld => ?_)
        clear hK K
        try simp only [Act.put, List.setIfInBounds_toArray, List.set_cons_zero, List.set_cons_succ, Array.toArray_toList, List.getElem_toArray, List.getElem_cons_zero, List.getElem_cons_succ]
        refine wpAnyH_take (i := 21) (v := ?v178) rfl (by kernel_rfl) (by kernel_rfl) (by kernel_rfl) (fun _ _ _ h => h) (Or.inl ⟨by rfl, ?hy178⟩) hHeld ?rest178
        case hy178 =>
          intro w hSw
          go_simp
          try with_reducible rfl
        try simp only [Act.put, List.setIfInBounds_toArray, List.set_cons_zero, List.set_cons_succ, Array.toArray_toList, List.getElem_toArray, List.getElem_cons_zero, List.getElem_cons_succ]
        refine wpAnyH_ready (rs := [23]) (by kernel_rfl) (by simp) ?_
        refine AllReadyH.cons rfl (fun K hK => ?_) AllReadyH.nil
        go_simp
        refine hK.out _ _ HV0.out (fun hHeld => ?_)
        clear hK K
        try simp only [Act.put, List.setIfInBounds_toArray, List.set_cons_zero, List.set_cons_succ, Array.toArray_toList, List.getElem_toArray, List.getElem_cons_zero, List.getElem_cons_succ]
        refine wpAnyH_done (by kernel_rfl) ?_ _
        refine NoPanic.normal ?_
        go_upto_region 8 with fail
        clear bd sv hV0 egd z
        have hsrc0 : ∀ j, j < 48 → (V0.drew).cell? (Addr.add ⟨b0, o0, none⟩ j) = some (.int .u8 (m (0 + j))) := fun j hj => by
          obtain ⟨b', o', e', _, _, h'⟩ := bys_at (Q0.out.below (w' := V0.drew) (by rw [EG.out]; exact HV0.out.drew)) (by omega)
          cases e'
          rw [Addr.add_mid]
          exact h' j hj
        have HCP0 := hid (copy_seg V0.drew g 0 48 (sValidator ⟨fun _ => 0, fun _ => 0, N2, N3, N4, N5, N6, N7⟩) (sValidator ⟨fun q => m (0 + q), fun _ => 0, N2, N3, N4, N5, N6, N7⟩) (fun q => m (0 + q)) ⟨b0, o0, none⟩ c0 48 53 RV0.out (by rw [slValidator]; omega) hsrc0 (by kernel_rfl))
        clear hsrc0
        refine wp_region_noPanic ?_
        refine wp_region_held_drew (S := fun X => Below g w1 X) (by kernel_rfl) (HV0.out.drew) (fun hHeld => ?_)
        refine wpAnyH_take (i := 0) (v := ?v179) rfl (by kernel_rfl) (by kernel_rfl) (by kernel_rfl) (fun _ _ _ h => h) (Or.inl ⟨by rfl, ?hy179⟩) hHeld ?rest179
        case hy179 =>
          intro w hSw
          go_simp
          try with_reducible rfl
        try simp only [Act.put, List.setIfInBounds_toArray, List.set_cons_zero, List.set_cons_succ, Array.toArray_toList, List.getElem_toArray, List.getElem_cons_zero, List.getElem_cons_succ]
        refine wpAnyH_take (i := 1) (v := ?v180) rfl (by kernel_rfl) (by kernel_rfl) (by kernel_rfl) (fun _ _ _ h => h) (Or.inl ⟨by rfl, ?hy180⟩) hHeld ?rest180
        case hy180 =>
          intro w hSw
          go_simp
          try with_reducible rfl
        try simp only [Act.put, List.setIfInBounds_toArray, List.set_cons_zero, List.set_cons_succ, Array.toArray_toList, List.getElem_toArray, List.getElem_cons_zero, List.getElem_cons_succ]
        refine wpAnyH_take (i := 2) (v := ?v181) rfl (by kernel_rfl) (by kernel_rfl) (by kernel_rfl) (fun _ _ _ h => h) (Or.inl ⟨by rfl, ?hy181⟩) hHeld ?rest181
        case hy181 =>
          intro w hSw
          go_simp
          try with_reducible rfl
        try simp only [Act.put, List.setIfInBounds_toArray, List.set_cons_zero, List.set_cons_succ, Array.toArray_toList, List.getElem_toArray, List.getElem_cons_zero, List.getElem_cons_succ]
        refine wpAnyH_take (i := 3) (v := ?v182) rfl (by kernel_rfl) (by kernel_rfl) (by kernel_rfl) (fun _ _ _ h => h) (Or.inl ⟨by rfl, ?hy182⟩) hHeld ?rest182
        case hy182 =>
          intro w hSw
          go_simp
          try with_reducible rfl
        try simp only [Act.put, List.setIfInBounds_toArray, List.set_cons_zero, List.set_cons_succ, Array.toArray_toList, List.getElem_toArray, List.getElem_cons_zero, List.getElem_cons_succ]
        refine wpAnyH_take (i := 4) (v := ?v183) rfl (by kernel_rfl) (by kernel_rfl) (by kernel_rfl) (fun _ _ _ h => h) (Or.inl ⟨by rfl, ?hy183⟩) hHeld ?rest183
        case hy183 =>
          intro w hSw
          have ld := (below_cell hSw (by rw [← EG.out]; exact HGP.out)).trans L0.out
          go_simp
          try with_reducible rfl
        try simp only [Act.put, List.setIfInBounds_toArray, List.set_cons_zero, List.set_cons_succ, Array.toArray_toList, List.getElem_toArray, List.getElem_cons_zero, List.getElem_cons_succ]
        refine wpAnyH_ready (rs := [5]) (by kernel_rfl) (by simp) ?_
        refine AllReadyH.cons rfl (fun K hK => ?_) AllReadyH.nil
        refine step_copy_is (by rfl) _ _ 27 27 (by rfl) _ _ _ _ (by rfl) (by rfl) HCP0.out ?_
        refine hK.out _ _ (below_row HV0.out.drew (Nat.le_refl _) _) (fun hHeld => ?_)
        clear hK K
        try simp only [Act.put, List.setIfInBounds_toArray, List.set_cons_zero, List.set_cons_succ, Array.toArray_toList, List.getElem_toArray, List.getElem_cons_zero, List.getElem_cons_succ]
        refine wpAnyH_done (by kernel_rfl) ?_ _
        refine NoPanic.normal ?_
        obtain ⟨V1, hV1⟩ : ∃ V, (V0.drew).setRow g (cel (sValidator ⟨fun q => m (0 + q), fun _ => 0, N2, N3, N4, N5, N6, N7⟩)) = V := ⟨_, rfl⟩
        have RV1 : Hid (V1.heap[g]? = some (.cells (cel (sValidator ⟨fun q => m (0 + q), fun _ => 0, N2, N3, N4, N5, N6, N7⟩)) 53)) := by rw [← hV1]; exact setRow_at (w := V0.drew) RV0.out
        have HV1 : Hid (Below g w1 V1) := by rw [← hV1]; exact below_row HV0.out.drew (Nat.le_refl _) _
        rw [hV1]
        clear hV1
        go_upto_region 9 with fail
        have hsrc1 : ∀ j, j < 32 → (V1.drew).cell? (Addr.add ⟨b1, o1, none⟩ j) = some (.int .u8 (m (48 + j))) := fun j hj => by
          obtain ⟨b', o', e', _, _, h'⟩ := bys_at (Q1.out.below (w' := V1.drew) (by rw [EG.out]; exact HV1.out.drew)) (by omega)
          cases e'
          rw [Addr.add_mid]
          exact h' j hj
        have HCP1 := hid (copy_seg V1.drew g 48 32 (sValidator ⟨fun q => m (0 + q), fun _ => 0, N2, N3, N4, N5, N6, N7⟩) (sValidator ⟨fun q => m (0 + q), fun q => m (48 + q), N2, N3, N4, N5, N6, N7⟩) (fun q => m (48 + q)) ⟨b1, o1, none⟩ c1 32 53 RV1.out (by rw [slValidator]; omega) hsrc1 (by kernel_rfl))
        clear hsrc1
        refine wp_region_noPanic ?_
        refine wp_region_held_drew (S := fun X => Below g w1 X) (by kernel_rfl) (HV1.out.drew) (fun hHeld => ?_)
        refine wpAnyH_take (i := 0) (v := ?v184) rfl (by kernel_rfl) (by kernel_rfl) (by kernel_rfl) (fun _ _ _ h => h) (Or.inl ⟨by rfl, ?hy184⟩) hHeld ?rest184
        case hy184 =>
          intro w hSw
          go_simp
          try with_reducible rfl
        try simp only [Act.put, List.setIfInBounds_toArray, List.set_cons_zero, List.set_cons_succ, Array.toArray_toList, List.getElem_toArray, List.getElem_cons_zero, List.getElem_cons_succ]
        refine wpAnyH_take (i := 1) (v := ?v185) rfl (by kernel_rfl) (by kernel_rfl) (by kernel_rfl) (fun _ _ _ h => h) (Or.inl ⟨by rfl, ?hy185⟩) hHeld ?rest185
        case hy185 =>
          intro w hSw
          go_simp
          try with_reducible rfl
        try simp only [Act.put, List.setIfInBounds_toArray, List.set_cons_zero, List.set_cons_succ, Array.toArray_toList, List.getElem_toArray, List.getElem_cons_zero, List.getElem_cons_succ]
        refine wpAnyH_take (i := 2) (v := ?v186) rfl (by kernel_rfl) (by kernel_rfl) (by kernel_rfl) (fun _ _ _ h => h) (Or.inl ⟨by rfl, ?hy186⟩) hHeld ?rest186
        case hy186 =>
          intro w hSw
          go_simp
          try with_reducible rfl
        try simp only [Act.put, List.setIfInBounds_toArray, List.set_cons_zero, List.set_cons_succ, Array.toArray_toList, List.getElem_toArray, List.getElem_cons_zero, List.getElem_cons_succ]
        refine wpAnyH_take (i := 3) (v := ?v187) rfl (by kernel_rfl) (by kernel_rfl) (by kernel_rfl) (fun _ _ _ h => h) (Or.inl ⟨by rfl, ?hy187⟩) hHeld ?rest187
        case hy187 =>
          intro w hSw
          go_simp
          try with_reducible rfl
        try simp only [Act.put, List.setIfInBounds_toArray, List.set_cons_zero, List.set_cons_succ, Array.toArray_toList, List.getElem_toArray, List.getElem_cons_zero, List.getElem_cons_succ]
        refine wpAnyH_take (i := 4) (v := ?v188) rfl (by kernel_rfl) (by kernel_rfl) (by kernel_rfl) (fun _ _ _ h => h) (Or.inl ⟨by rfl, ?hy188⟩) hHeld ?rest188
        case hy188 =>
          intro w hSw
          have ld := (below_cell hSw (by rw [← EG.out]; exact HGP.out)).trans L1.out
          go_simp
          try with_reducible rfl
        try simp only [Act.put, List.setIfInBounds_toArray, List.set_cons_zero, List.set_cons_succ, Array.toArray_toList, List.getElem_toArray, List.getElem_cons_zero, List.getElem_cons_succ]
        refine wpAnyH_ready (rs := [5]) (by kernel_rfl) (by simp) ?_
        refine AllReadyH.cons rfl (fun K hK => ?_) AllReadyH.nil
        refine step_copy_is (by rfl) _ _ 27 27 (by rfl) _ _ _ _ (by rfl) (by rfl) HCP1.out ?_
        refine hK.out _ _ (below_row HV1.out.drew (Nat.le_refl _) _) (fun hHeld => ?_)
        clear hK K
        try simp only [Act.put, List.setIfInBounds_toArray, List.set_cons_zero, List.set_cons_succ, Array.toArray_toList, List.getElem_toArray, List.getElem_cons_zero, List.getElem_cons_succ]
        refine wpAnyH_done (by kernel_rfl) ?_ _
        refine NoPanic.normal ?_
        obtain ⟨V2, hV2⟩ : ∃ V, (V1.drew).setRow g (cel (sValidator ⟨fun q => m (0 + q), fun q => m (48 + q), N2, N3, N4, N5, N6, N7⟩)) = V := ⟨_, rfl⟩
        have RV2 : Hid (V2.heap[g]? = some (.cells (cel (sValidator ⟨fun q => m (0 + q), fun q => m (48 + q), N2, N3, N4, N5, N6, N7⟩)) 53)) := by rw [← hV2]; exact setRow_at (w := V1.drew) RV1.out
        have HV2 : Hid (Below g w1 V2) := by rw [← hV2]; exact below_row HV1.out.drew (Nat.le_refl _) _
        rw [hV2]
        clear hV2
        obtain ⟨vv, ev⟩ : ∃ v : VValidator, ⟨fun q => m (0 + q), fun q => m (48 + q), N2, N3, N4, N5, N6, N7⟩ = v := ⟨_, rfl⟩
        have rv := RV2.out
        rw [ev] at rv
        have rr : V2.heap[y]? = some (.cells (cel (sValidator oValidator)) 53) := (HV2.out.block _ (by rw [← EG.out]; exact Nat.lt_of_lt_of_le HY.out HB1.out.size)).trans ((HB1.out.block _ HY.out).trans R2.out)
        have sv := svValidator_run rr vv
        have lv := lvValidator_mid (x := vv) rv 0 (take_all _) rfl
        have RR := hid rr
        have EV := hid ev
        clear rr rv ev
        go_wp2
        refine retValidator _ _ y vv 53 _ rfl rfl rfl rfl (setRow_at RR.out) ⟨?_, ?_⟩
        · rw [← EV.out, ← EN2.out, ← EN3.out, ← EN4.out, ← EN5.out, ← EN6.out, ← EN7.out]
          rfl
        have e0 := EY.out
        have e1 := HB2.out.size
        have e2 := HB1.out.size
        have e3 := EG.out
        exact below_row (HB2.out.trans ((HB1.out.mono (by omega)).trans (HV2.out.mono (by omega)))) (by omega) _
    · go_simp
      refine hK.out _ _ HAL.out (fun hHeld => ?_)
      clear hK K
      try simp only [Act.put, List.setIfInBounds_toArray, List.set_cons_zero, List.set_cons_succ, Array.toArray_toList, List.getElem_toArray, List.getElem_cons_zero, List.getElem_cons_succ]
      refine wpAnyH_ready (rs := [8]) (by kernel_rfl) (by simp) ?_
      refine AllReadyH.cons rfl (fun K hK => ?_) AllReadyH.nil
      go_simp
      refine (HN4.out _ (by rw [EG.out]; exact HAL.out)).mono ?_
      rintro e w2 ⟨rfl, rfl⟩
      dsimp only
      refine hK.out _ _ HAL.out (fun hHeld => ?_)
      clear hK K
      try simp only [Act.put, List.setIfInBounds_toArray, List.set_cons_zero, List.set_cons_succ, Array.toArray_toList, List.getElem_toArray, List.getElem_cons_zero, List.getElem_cons_succ]
      refine wpAnyH_ready (rs := [12]) (by kernel_rfl) (by simp) ?_
      refine AllReadyH.cons rfl (fun K hK => ?_) AllReadyH.nil
      go_simp
      refine (HN5.out _ (by rw [EG.out]; exact HAL.out)).mono ?_
      rintro e w2 ⟨rfl, rfl⟩
      dsimp only
      refine hK.out _ _ HAL.out (fun hHeld => ?_)
      clear hK K
      try simp only [Act.put, List.setIfInBounds_toArray, List.set_cons_zero, List.set_cons_succ, Array.toArray_toList, List.getElem_toArray, List.getElem_cons_zero, List.getElem_cons_succ]
      refine wpAnyH_ready (rs := [16]) (by kernel_rfl) (by simp) ?_
      refine AllReadyH.cons rfl (fun K hK => ?_) AllReadyH.nil
      go_simp
      refine (HN6.out _ (by rw [EG.out]; exact HAL.out)).mono ?_
      rintro e w2 ⟨rfl, rfl⟩
      dsimp only
      refine hK.out _ _ HAL.out (fun hHeld => ?_)
      clear hK K
      try simp only [Act.put, List.setIfInBounds_toArray, List.set_cons_zero, List.set_cons_succ, Array.toArray_toList, List.getElem_toArray, List.getElem_cons_zero, List.getElem_cons_succ]
      refine wpAnyH_ready (rs := [20]) (by kernel_rfl) (by simp) ?_
      refine AllReadyH.cons rfl (fun K hK => ?_) AllReadyH.nil
      go_simp
      refine (HN7.out _ (by rw [EG.out]; exact HAL.out)).mono ?_
      rintro e w2 ⟨rfl, rfl⟩
      dsimp only
      refine hK.out _ _ HAL.out (fun hHeld => ?_)
      clear hK K
      try simp only [Act.put, List.setIfInBounds_toArray, List.set_cons_zero, List.set_cons_succ, Array.toArray_toList, List.getElem_toArray, List.getElem_cons_zero, List.getElem_cons_succ]
      refine wpAnyH_take (i := 21) (v := ?v189) rfl (by kernel_rfl) (by kernel_rfl) (by kernel_rfl) (fun _ _ _ h => h) (Or.inl ⟨by rfl, ?hy189⟩) hHeld ?rest189
      case hy189 =>
        intro w hSw
        go_simp
        try with_reducible rfl
      try simp only [Act.put, List.setIfInBounds_toArray, List.set_cons_zero, List.set_cons_succ, Array.toArray_toList, List.getElem_toArray, List.getElem_cons_zero, List.getElem_cons_succ]
      refine wpAnyH_ready (rs := [23]) (by kernel_rfl) (by simp) ?_
      refine AllReadyH.cons rfl (fun K hK => ?_) AllReadyH.nil
      go_simp
      refine hK.out _ _ HV0.out (fun hHeld => ?_)
      clear hK K
      try simp only [Act.put, List.setIfInBounds_toArray, List.set_cons_zero, List.set_cons_succ, Array.toArray_toList, List.getElem_toArray, List.getElem_cons_zero, List.getElem_cons_succ]
      refine wpAnyH_done (by kernel_rfl) ?_ _
      refine NoPanic.normal ?_
      go_upto_region 8 with fail
      clear bd sv hV0 egd z
      have hsrc0 : ∀ j, j < 48 → (V0.drew).cell? (Addr.add ⟨b0, o0, none⟩ j) = some (.int .u8 (m (0 + j))) := fun j hj => by
        obtain ⟨b', o', e', _, _, h'⟩ := bys_at (Q0.out.below (w' := V0.drew) (by rw [EG.out]; exact HV0.out.drew)) (by omega)
        cases e'
        rw [Addr.add_mid]
        exact h' j hj
      have HCP0 := hid (copy_seg V0.drew g 0 48 (sValidator ⟨fun _ => 0, fun _ => 0, N2, N3, N4, N5, N6, N7⟩) (sValidator ⟨fun q => m (0 + q), fun _ => 0, N2, N3, N4, N5, N6, N7⟩) (fun q => m (0 + q)) ⟨b0, o0, none⟩ c0 48 53 RV0.out (by rw [slValidator]; omega) hsrc0 (by kernel_rfl))
      clear hsrc0
      refine wp_region_noPanic ?_
      refine wp_region_held_drew (S := fun X => Below g w1 X) (by kernel_rfl) (HV0.out.drew) (fun hHeld => ?_)
      refine wpAnyH_take (i := 0) (v := ?v190) rfl (by kernel_rfl) (by kernel_rfl) (by kernel_rfl) (fun _ _ _ h => h) (Or.inl ⟨by rfl, ?hy190⟩) hHeld ?rest190
      case hy190 =>
        intro w hSw
        go_simp
        try with_reducible rfl
      try simp only [Act.put, List.setIfInBounds_toArray, List.set_cons_zero, List.set_cons_succ, Array.toArray_toList, List.getElem_toArray, List.getElem_cons_zero, List.getElem_cons_succ]
      refine wpAnyH_take (i := 1) (v := ?v191) rfl (by kernel_rfl) (by kernel_rfl) (by kernel_rfl) (fun _ _ _ h => h) (Or.inl ⟨by rfl, ?hy191⟩) hHeld ?rest191
      case hy191 =>
        intro w hSw
        go_simp
        try with_reducible rfl
      try simp only [Act.put, List.setIfInBounds_toArray, List.set_cons_zero, List.set_cons_succ, Array.toArray_toList, List.getElem_toArray, List.getElem_cons_zero, List.getElem_cons_succ]
      refine wpAnyH_take (i := 2) (v := ?v192) rfl (by kernel_rfl) (by kernel_rfl) (by kernel_rfl) (fun _ _ _ h => h) (Or.inl ⟨by rfl, ?hy192⟩) hHeld ?rest192
      case hy192 =>
        intro w hSw
        go_simp
        try with_reducible rfl
      try simp only [Act.put, List.setIfInBounds_toArray, List.set_cons_zero, List.set_cons_succ, Array.toArray_toList, List.getElem_toArray, List.getElem_cons_zero, List.getElem_cons_succ]
      refine wpAnyH_take (i := 3) (v := ?v193) rfl (by kernel_rfl) (by kernel_rfl) (by kernel_rfl) (fun _ _ _ h => h) (Or.inl ⟨by rfl, ?hy193⟩) hHeld ?rest193
      case hy193 =>
        intro w hSw
        go_simp
        try with_reducible rfl
      try simp only [Act.put, List.setIfInBounds_toArray, List.set_cons_zero, List.set_cons_succ, Array.toArray_toList, List.getElem_toArray, List.getElem_cons_zero, List.getElem_cons_succ]
      refine wpAnyH_take (i := 4) (v := ?v194) rfl (by kernel_rfl) (by kernel_rfl) (by kernel_rfl) (fun _ _ _ h => h) (Or.inl ⟨by rfl, ?hy194⟩) hHeld ?rest194
      case hy194 =>
        intro w hSw
        have ld := (below_cell hSw (by rw [← EG.out]; exact HGP.out)).trans L0.out
        go_simp
        try with_reducible rfl
      try simp only [Act.put, List.setIfInBounds_toArray, List.set_cons_zero, List.set_cons_succ, Array.toArray_toList, List.getElem_toArray, List.getElem_cons_zero, List.getElem_cons_succ]
      refine wpAnyH_ready (rs := [5]) (by kernel_rfl) (by simp) ?_
      refine AllReadyH.cons rfl (fun K hK => ?_) AllReadyH.nil
      refine step_copy_is (by rfl) _ _ 27 27 (by rfl) _ _ _ _ (by rfl) (by rfl) HCP0.out ?_
      refine hK.out _ _ (below_row HV0.out.drew (Nat.le_refl _) _) (fun hHeld => ?_)
      clear hK K
      try simp only [Act.put, List.setIfInBounds_toArray, List.set_cons_zero, List.set_cons_succ, Array.toArray_toList, List.getElem_toArray, List.getElem_cons_zero, List.getElem_cons_succ]
      refine wpAnyH_done (by kernel_rfl) ?_ _
      refine NoPanic.normal ?_
      obtain ⟨V1, hV1⟩ : ∃ V, (V0.drew).setRow g (cel (sValidator ⟨fun q => m (0 + q), fun _ => 0, N2, N3, N4, N5, N6, N7⟩)) = V := ⟨_, rfl⟩
      have RV1 : Hid (V1.heap[g]? = some (.cells (cel (sValidator ⟨fun q => m (0 + q), fun _ => 0, N2, N3, N4, N5, N6, N7⟩)) 53)) := by rw [← hV1]; exact setRow_at (w := V0.drew) RV0.out
      have HV1 : Hid (Below g w1 V1) := by rw [← hV1]; exact below_row HV0.out.drew (Nat.le_refl _) _
      rw [hV1]
      clear hV1
      go_upto_region 9 with fail
      have hsrc1 : ∀ j, j < 32 → (V1.drew).cell? (Addr.add ⟨b1, o1, none⟩ j) = some (.int .u8 (m (48 + j))) := fun j hj => by
        obtain ⟨b', o', e', _, _, h'⟩ := bys_at (Q1.out.below (w' := V1.drew) (by rw [EG.out]; exact HV1.out.drew)) (by omega)
        cases e'
        rw [Addr.add_mid]
        exact h' j hj
      have HCP1 := hid (copy_seg V1.drew g 48 32 (sValidator ⟨fun q => m (0 + q), fun _ => 0, N2, N3, N4, N5, N6, N7⟩) (sValidator ⟨fun q => m (0 + q), fun q => m (48 + q), N2, N3, N4, N5, N6, N7⟩) (fun q => m (48 + q)) ⟨b1, o1, none⟩ c1 32 53 RV1.out (by rw [slValidator]; omega) hsrc1 (by kernel_rfl))
      clear hsrc1
      refine wp_region_noPanic ?_
      refine wp_region_held_drew (S := fun X => Below g w1 X) (by kernel_rfl) (HV1.out.drew) (fun hHeld => ?_)
      refine wpAnyH_take (i := 0) (v := ?v195) rfl (by kernel_rfl) (by kernel_rfl) (by kernel_rfl) (fun _ _ _ h => h) (Or.inl ⟨by rfl, ?hy195⟩) hHeld ?rest195
      case hy195 =>
        intro w hSw
        go_simp
        try with_reducible rfl
      try simp only [Act.put, List.setIfInBounds_toArray, List.set_cons_zero, List.set_cons_succ, Array.toArray_toList, List.getElem_toArray, List.getElem_cons_zero, List.getElem_cons_succ]
      refine wpAnyH_take (i := 1) (v := ?v196) rfl (by kernel_rfl) (by kernel_rfl) (by kernel_rfl) (fun _ _ _ h => h) (Or.inl ⟨by rfl, ?hy196⟩) hHeld ?rest196
      case hy196 =>
        intro w hSw
        go_simp
        try with_reducible rfl
      try simp only [Act.put, List.setIfInBounds_toArray, List.set_cons_zero, List.set_cons_succ, Array.toArray_toList, List.getElem_toArray, List.getElem_cons_zero, List.getElem_cons_succ]
      refine wpAnyH_take (i := 2) (v := ?v197) rfl (by kernel_rfl) (by kernel_rfl) (by kernel_rfl) (fun _ _ _ h => h) (Or.inl ⟨by rfl, ?hy197⟩) hHeld ?rest197
      case hy197 =>
        intro w hSw
        go_simp
        try with_reducible rfl
      try simp only [Act.put, List.setIfInBounds_toArray, List.set_cons_zero, List.set_cons_succ, Array.toArray_toList, List.getElem_toArray, List.getElem_cons_zero, List.getElem_cons_succ]
      refine wpAnyH_take (i := 3) (v := ?v198) rfl (by kernel_rfl) (by kernel_rfl) (by kernel_rfl) (fun _ _ _ h => h) (Or.inl ⟨by rfl, ?hy198⟩) hHeld ?rest198
      case hy198 =>
        intro w hSw
        go_simp
        try with_reducible rfl
      try simp only [Act.put, List.setIfInBounds_toArray, List.set_cons_zero, List.set_cons_succ, Array.toArray_toList, List.getElem_toArray, List.getElem_cons_zero, List.getElem_cons_succ]
      refine wpAnyH_take (i := 4) (v := ?v199) rfl (by kernel_rfl) (by kernel_rfl) (by kernel_rfl) (fun _ _ _ h => h) (Or.inl ⟨by rfl, ?hy199⟩) hHeld ?rest199
      case hy199 =>
        intro w hSw
        have ld := (below_cell hSw (by rw [← EG.out]; exact HGP.out)).trans L1.out
        go_simp
        try with_reducible rfl
      try simp only [Act.put, List.setIfInBounds_toArray, List.set_cons_zero, List.set_cons_succ, Array.toArray_toList, List.getElem_toArray, List.getElem_cons_zero, List.getElem_cons_succ]
      refine wpAnyH_ready (rs := [5]) (by kernel_rfl) (by simp) ?_
      refine AllReadyH.cons rfl (fun K hK => ?_) AllReadyH.nil
      refine step_copy_is (by rfl) _ _ 27 27 (by rfl) _ _ _ _ (by rfl) (by rfl) HCP1.out ?_
      refine hK.out _ _ (below_row HV1.out.drew (Nat.le_refl _) _) (fun hHeld => ?_)
      clear hK K
      try simp only [Act.put, List.setIfInBounds_toArray, List.set_cons_zero, List.set_cons_succ, Array.toArray_toList, List.getElem_toArray, List.getElem_cons_zero, List.getElem_cons_succ]
      refine wpAnyH_done (by kernel_rfl) ?_ _
      refine NoPanic.normal ?_
      obtain ⟨V2, hV2⟩ : ∃ V, (V1.drew).setRow g (cel (sValidator ⟨fun q => m (0 + q), fun q => m (48 + q), N2, N3, N4, N5, N6, N7⟩)) = V := ⟨_, rfl⟩
      have RV2 : Hid (V2.heap[g]? = some (.cells (cel (sValidator ⟨fun q => m (0 + q), fun q => m (48 + q), N2, N3, N4, N5, N6, N7⟩)) 53)) := by rw [← hV2]; exact setRow_at (w := V1.drew) RV1.out
      have HV2 : Hid (Below g w1 V2) := by rw [← hV2]; exact below_row HV1.out.drew (Nat.le_refl _) _
      rw [hV2]
      clear hV2
      obtain ⟨vv, ev⟩ : ∃ v : VValidator, ⟨fun q => m (0 + q), fun q => m (48 + q), N2, N3, N4, N5, N6, N7⟩ = v := ⟨_, rfl⟩
      have rv := RV2.out
      rw [ev] at rv
      have rr : V2.heap[y]? = some (.cells (cel (sValidator oValidator)) 53) := (HV2.out.block _ (by rw [← EG.out]; exact Nat.lt_of_lt_of_le HY.out HB1.out.size)).trans ((HB1.out.block _ HY.out).trans R2.out)
      have sv := svValidator_run rr vv
      have lv := lvValidator_mid (x := vv) rv 0 (take_all _) rfl
      have RR := hid rr
      have EV := hid ev
      clear rr rv ev
      go_wp2
      refine retValidator _ _ y vv 53 _ rfl rfl rfl rfl (setRow_at RR.out) ⟨?_, ?_⟩
      · rw [← EV.out, ← EN2.out, ← EN3.out, ← EN4.out, ← EN5.out, ← EN6.out, ← EN7.out]
        rfl
      have e0 := EY.out
      have e1 := HB2.out.size
      have e2 := HB1.out.size
      have e3 := EG.out
      exact below_row (HB2.out.trans ((HB1.out.mono (by omega)).trans (HV2.out.mono (by omega)))) (by omega) _
  · go_simp
    refine hK.out _ _ HAL.out (fun hHeld => ?_)
    clear hK K
    try simp only [Act.put, List.setIfInBounds_toArray, List.set_cons_zero, List.set_cons_succ, Array.toArray_toList, List.getElem_toArray, List.getElem_cons_zero, List.getElem_cons_succ]
    refine wpAnyH_ready (rs := [3]) (by kernel_rfl) (by simp) ?_
    refine AllReadyH.cons rfl (fun K hK => ?_) AllReadyH.nil
    go_simp
    refine (HN2.out _ (by rw [EG.out]; exact HAL.out)).mono ?_
    rintro e w2 ⟨rfl, rfl⟩
    dsimp only
    refine hK.out _ _ HAL.out (fun hHeld => ?_)
    clear hK K
    try simp only [Act.put, List.setIfInBounds_toArray, List.set_cons_zero, List.set_cons_succ, Array.toArray_toList, List.getElem_toArray, List.getElem_cons_zero, List.getElem_cons_succ]
    refine wpAnyH_ready (rs := [8]) (by kernel_rfl) (by simp) ?_
    refine AllReadyH.cons rfl (fun K hK => ?_) AllReadyH.nil
    go_simp
    refine (HN4.out _ (by rw [EG.out]; exact HAL.out)).mono ?_
    rintro e w2 ⟨rfl, rfl⟩
    dsimp only
    refine hK.out _ _ HAL.out (fun hHeld => ?_)
    clear hK K
    try simp only [Act.put, List.setIfInBounds_toArray, List.set_cons_zero, List.set_cons_succ, Array.toArray_toList, List.getElem_toArray, List.getElem_cons_zero, List.getElem_cons_succ]
    refine wpAnyH_ready (rs := [12]) (by kernel_rfl) (by simp) ?_
    refine AllReadyH.cons rfl (fun K hK => ?_) AllReadyH.nil
    go_simp
    refine (HN5.out _ (by rw [EG.out]; exact HAL.out)).mono ?_
    rintro e w2 ⟨rfl, rfl⟩
    dsimp only
    refine hK.out _ _ HAL.out (fun hHeld => ?_)
    clear hK K
    try simp only [Act.put, List.setIfInBounds_toArray, List.set_cons_zero, List.set_cons_succ, Array.toArray_toList, List.getElem_toArray, List.getElem_cons_zero, List.getElem_cons_succ]
    refine wpAnyH_ready (rs := [16]) (by kernel_rfl) (by simp) ?_
    refine AllReadyH.cons rfl (fun K hK => ?_) AllReadyH.nil
    go_simp
    refine (HN6.out _ (by rw [EG.out]; exact HAL.out)).mono ?_
    rintro e w2 ⟨rfl, rfl⟩
    dsimp only
    refine hK.out _ _ HAL.out (fun hHeld => ?_)
    clear hK K
    try simp only [Act.put, List.setIfInBounds_toArray, List.set_cons_zero, List.set_cons_succ, Array.toArray_toList, List.getElem_toArray, List.getElem_cons_zero, List.getElem_cons_succ]
    refine wpAnyH_ready (rs := [20]) (by kernel_rfl) (by simp) ?_
    refine AllReadyH.cons rfl (fun K hK => ?_) AllReadyH.nil
    go_simp
    refine (HN7.out _ (by rw [EG.out]; exact HAL.out)).mono ?_
    rintro e w2 ⟨rfl, rfl⟩
    dsimp only
    refine hK.out _ _ HAL.out (fun hHeld => ?_)
    clear hK K
    try simp only [Act.put, List.setIfInBounds_toArray, List.set_cons_zero, List.set_cons_succ, Array.toArray_toList, List.getElem_toArray, List.getElem_cons_zero, List.getElem_cons_succ]
    refine wpAnyH_take (i := 21) (v := ?v200) rfl (by kernel_rfl) (by kernel_rfl) (by kernel_rfl) (fun _ _ _ h => h) (Or.inl ⟨by rfl, ?hy200⟩) hHeld ?rest200
    case hy200 =>
      intro w hSw
      go_simp
      try with_reducible rfl
    try simp only [Act.put, List.setIfInBounds_toArray, List.set_cons_zero, List.set_cons_succ, Array.toArray_toList, List.getElem_toArray, List.getElem_cons_zero, List.getElem_cons_succ]
    refine wpAnyH_ready (rs := [23]) (by kernel_rfl) (by simp) ?_
    refine AllReadyH.cons rfl (fun K hK => ?_) AllReadyH.nil
    go_simp
    refine hK.out _ _ HV0.out (fun hHeld => ?_)
    clear hK K
    try simp only [Act.put, List.setIfInBounds_toArray, List.set_cons_zero, List.set_cons_succ, Array.toArray_toList, List.getElem_toArray, List.getElem_cons_zero, List.getElem_cons_succ]
    refine wpAnyH_done (by kernel_rfl) ?_ _
    refine NoPanic.normal ?_
    go_upto_region 8 with fail
    clear bd sv hV0 egd z
    have hsrc0 : ∀ j, j < 48 → (V0.drew).cell? (Addr.add ⟨b0, o0, none⟩ j) = some (.int .u8 (m (0 + j))) := fun j hj => by
      obtain ⟨b', o', e', _, _, h'⟩ := bys_at (Q0.out.below (w' := V0.drew) (by rw [EG.out]; exact HV0.out.drew)) (by omega)
      cases e'
      rw [Addr.add_mid]
      exact h' j hj
    have HCP0 := hid (copy_seg V0.drew g 0 48 (sValidator ⟨fun _ => 0, fun _ => 0, N2, N3, N4, N5, N6, N7⟩) (sValidator ⟨fun q => m (0 + q), fun _ => 0, N2, N3, N4, N5, N6, N7⟩) (fun q => m (0 + q)) ⟨b0, o0, none⟩ c0 48 53 RV0.out (by rw [slValidator]; omega) hsrc0 (by kernel_rfl))
    clear hsrc0
    refine wp_region_noPanic ?_
    refine wp_region_held_drew (S := fun X => Below g w1 X) (by kernel_rfl) (HV0.out.drew) (fun hHeld => ?_)
    refine wpAnyH_take (i := 0) (v := ?v201) rfl (by kernel_rfl) (by kernel_rfl) (by kernel_rfl) (fun _ _ _ h => h) (Or.inl ⟨by rfl, ?hy201⟩) hHeld ?rest201
    case hy201 =>
      intro w hSw
      go_simp
      try with_reducible rfl
    try simp only [Act.put, List.setIfInBounds_toArray, List.set_cons_zero, List.set_cons_succ, Array.toArray_toList, List.getElem_toArray, List.getElem_cons_zero, List.getElem_cons_succ]
    refine wpAnyH_take (i := 1) (v := ?v202) rfl (by kernel_rfl) (by kernel_rfl) (by kernel_rfl) (fun _ _ _ h => h) (Or.inl ⟨by rfl, ?hy202⟩) hHeld ?rest202
    case hy202 =>
      intro w hSw
      go_simp
      try with_reducible rfl
    try simp only [Act.put, List.setIfInBounds_toArray, List.set_cons_zero, List.set_cons_succ, Array.toArray_toList, List.getElem_toArray, List.getElem_cons_zero, List.getElem_cons_succ]
    refine wpAnyH_take (i := 2) (v := ?v203) rfl (by kernel_rfl) (by kernel_rfl) (by kernel_rfl) (fun _ _ _ h => h) (Or.inl ⟨by rfl, ?hy203⟩) hHeld ?rest203
    case hy203 =>
      intro w hSw
      go_simp
      try with_reducible rfl
    try simp only [Act.put, List.setIfInBounds_toArray, List.set_cons_zero, List.set_cons_succ, Array.toArray_toList, List.getElem_toArray, List.getElem_cons_zero, List.getElem_cons_succ]
    refine wpAnyH_take (i := 3) (v := ?v204) rfl (by kernel_rfl) (by kernel_rfl) (by kernel_rfl) (fun _ _ _ h => h) (Or.inl ⟨by rfl, ?hy204⟩) hHeld ?rest204
    case hy204 =>
      intro w hSw
      go_simp
      try with_reducible rfl
    try simp only [Act.put, List.setIfInBounds_toArray, List.set_cons_zero, List.set_cons_succ, Array.toArray_toList, List.getElem_toArray, List.getElem_cons_zero, List.getElem_cons_succ]
    refine wpAnyH_take (i := 4) (v := ?v205) rfl (by kernel_rfl) (by kernel_rfl) (by kernel_rfl) (fun _ _ _ h => h) (Or.inl ⟨by rfl, ?hy205⟩) hHeld ?rest205
    case hy205 =>
      intro w hSw
      have ld := (below_cell hSw (by rw [← EG.out]; exact HGP.out)).trans L0.out
      go_simp
      try with_reducible rfl
    try simp only [Act.put, List.setIfInBounds_toArray, List.set_cons_zero, List.set_cons_succ, Array.toArray_toList, List.getElem_toArray, List.getElem_cons_zero, List.getElem_cons_succ]
    refine wpAnyH_ready (rs := [5]) (by kernel_rfl) (by simp) ?_
    refine AllReadyH.cons rfl (fun K hK => ?_) AllReadyH.nil
    refine step_copy_is (by rfl) _ _ 27 27 (by rfl) _ _ _ _ (by rfl) (by rfl) HCP0.out ?_
    refine hK.out _ _ (below_row HV0.out.drew (Nat.le_refl _) _) (fun hHeld => ?_)
    clear hK K
    try simp only [Act.put, List.setIfInBounds_toArray, List.set_cons_zero, List.set_cons_succ, Array.toArray_toList, List.getElem_toArray, List.getElem_cons_zero, List.getElem_cons_succ]
    refine wpAnyH_done (by kernel_rfl) ?_ _
    refine NoPanic.normal ?_
    obtain ⟨V1, hV1⟩ : ∃ V, (V0.drew).setRow g (cel (sValidator ⟨fun q => m (0 + q), fun _ => 0, N2, N3, N4, N5, N6, N7⟩)) = V := ⟨_, rfl⟩
    have RV1 : Hid (V1.heap[g]? = some (.cells (cel (sValidator ⟨fun q => m (0 + q), fun _ => 0, N2, N3, N4, N5, N6, N7⟩)) 53)) := by rw [← hV1]; exact setRow_at (w := V0.drew) RV0.out
    have HV1 : Hid (Below g w1 V1) := by rw [← hV1]; exact below_row HV0.out.drew (Nat.le_refl _) _
    rw [hV1]
    clear hV1
    go_upto_region 9 with fail
    have hsrc1 : ∀ j, j < 32 → (V1.drew).cell? (Addr.add ⟨b1, o1, none⟩ j) = some (.int .u8 (m (48 + j))) := fun j hj => by
      obtain ⟨b', o', e', _, _, h'⟩ := bys_at (Q1.out.below (w' := V1.drew) (by rw [EG.out]; exact HV1.out.drew)) (by omega)
      cases e'
      rw [Addr.add_mid]
      exact h' j hj
    have HCP1 := hid (copy_seg V1.drew g 48 32 (sValidator ⟨fun q => m (0 + q), fun _ => 0, N2, N3, N4, N5, N6, N7⟩) (sValidator ⟨fun q => m (0 + q), fun q => m (48 + q), N2, N3, N4, N5, N6, N7⟩) (fun q => m (48 + q)) ⟨b1, o1, none⟩ c1 32 53 RV1.out (by rw [slValidator]; omega) hsrc1 (by kernel_rfl))
    clear hsrc1
    refine wp_region_noPanic ?_
    refine wp_region_held_drew (S := fun X => Below g w1 X) (by kernel_rfl) (HV1.out.drew) (fun hHeld => ?_)
    refine wpAnyH_take (i := 0) (v := ?v206) rfl (by kernel_rfl) (by kernel_rfl) (by kernel_rfl) (fun _ _ _ h => h) (Or.inl ⟨by rfl, ?hy206⟩) hHeld ?rest206
    case hy206 =>
      intro w hSw
      go_simp
      try with_reducible rfl
    try simp only [Act.put, List.setIfInBounds_toArray, List.set_cons_zero, List.set_cons_succ, Array.toArray_toList, List.getElem_toArray, List.getElem_cons_zero, List.getElem_cons_succ]
    refine wpAnyH_take (i := 1) (v := ?v207) rfl (by kernel_rfl) (by kernel_rfl) (by kernel_rfl) (fun _ _ _ h => h) (Or.inl ⟨by rfl, ?hy207⟩) hHeld ?rest207
    case hy207 =>
      intro w hSw
      go_simp
      try with_reducible rfl
    try simp only [Act.put, List.setIfInBounds_toArray, List.set_cons_zero, List.set_cons_succ, Array.toArray_toList, List.getElem_toArray, List.getElem_cons_zero, List.getElem_cons_succ]
    refine wpAnyH_take (i := 2) (v := ?v208) rfl (by kernel_rfl) (by kernel_rfl) (by kernel_rfl) (fun _ _ _ h => h) (Or.inl ⟨by rfl, ?hy208⟩) hHeld ?rest208
    case hy208 =>
      intro w hSw
      go_simp
      try with_reducible rfl
    try simp only [Act.put, List.setIfInBounds_toArray, List.set_cons_zero, List.set_cons_succ, Array.toArray_toList, List.getElem_toArray, List.getElem_cons_zero, List.getElem_cons_succ]
    refine wpAnyH_take (i := 3) (v := ?v209) rfl (by kernel_rfl) (by kernel_rfl) (by kernel_rfl) (fun _ _ _ h => h) (Or.inl ⟨by rfl, ?hy209⟩) hHeld ?rest209
    case hy209 =>
      intro w hSw
      go_simp
      try with_reducible rfl
    try simp only [Act.put, List.setIfInBounds_toArray, List.set_cons_zero, List.set_cons_succ, Array.toArray_toList, List.getElem_toArray, List.getElem_cons_zero, List.getElem_cons_succ]
    refine wpAnyH_take (i := 4) (v := ?v210) rfl (by kernel_rfl) (by kernel_rfl) (by kernel_rfl) (fun _ _ _ h => h) (Or.inl ⟨by rfl, ?hy210⟩) hHeld ?rest210
    case hy210 =>
      intro w hSw
      have ld := (below_cell hSw (by rw [← EG.out]; exact HGP.out)).trans L1.out
      go_simp
      try with_reducible rfl
    try simp only [Act.put, List.setIfInBounds_toArray, List.set_cons_zero, List.set_cons_succ, Array.toArray_toList, List.getElem_toArray, List.getElem_cons_zero, List.getElem_cons_succ]
    refine wpAnyH_ready (rs := [5]) (by kernel_rfl) (by simp) ?_
    refine AllReadyH.cons rfl (fun K hK => ?_) AllReadyH.nil
    refine step_copy_is (by rfl) _ _ 27 27 (by rfl) _ _ _ _ (by rfl) (by rfl) HCP1.out ?_
    refine hK.out _ _ (below_row HV1.out.drew (Nat.le_refl _) _) (fun hHeld => ?_)
    clear hK K
    try simp only [Act.put, List.setIfInBounds_toArray, List.set_cons_zero, List.set_cons_succ, Array.toArray_toList, List.getElem_toArray, List.getElem_cons_zero, List.getElem_cons_succ]
    refine wpAnyH_done (by kernel_rfl) ?_ _
    refine NoPanic.normal ?_
    obtain ⟨V2, hV2⟩ : ∃ V, (V1.drew).setRow g (cel (sValidator ⟨fun q => m (0 + q), fun q => m (48 + q), N2, N3, N4, N5, N6, N7⟩)) = V := ⟨_, rfl⟩
    have RV2 : Hid (V2.heap[g]? = some (.cells (cel (sValidator ⟨fun q => m (0 + q), fun q => m (48 + q), N2, N3, N4, N5, N6, N7⟩)) 53)) := by rw [← hV2]; exact setRow_at (w := V1.drew) RV1.out
    have HV2 : Hid (Below g w1 V2) := by rw [← hV2]; exact below_row HV1.out.drew (Nat.le_refl _) _
    rw [hV2]
    clear hV2
    obtain ⟨vv, ev⟩ : ∃ v : VValidator, ⟨fun q => m (0 + q), fun q => m (48 + q), N2, N3, N4, N5, N6, N7⟩ = v := ⟨_, rfl⟩
    have rv := RV2.out
    rw [ev] at rv
    have rr : V2.heap[y]? = some (.cells (cel (sValidator oValidator)) 53) := (HV2.out.block _ (by rw [← EG.out]; exact Nat.lt_of_lt_of_le HY.out HB1.out.size)).trans ((HB1.out.block _ HY.out).trans R2.out)
    have sv := svValidator_run rr vv
    have lv := lvValidator_mid (x := vv) rv 0 (take_all _) rfl
    have RR := hid rr
    have EV := hid ev
    clear rr rv ev
    go_wp2
    refine retValidator _ _ y vv 53 _ rfl rfl rfl rfl (setRow_at RR.out) ⟨?_, ?_⟩
    · rw [← EV.out, ← EN2.out, ← EN3.out, ← EN4.out, ← EN5.out, ← EN6.out, ← EN7.out]
      rfl
    have e0 := EY.out
    have e1 := HB2.out.size
    have e2 := HB1.out.size
    have e3 := EG.out
    exact below_row (HB2.out.trans ((HB1.out.mono (by omega)).trans (HV2.out.mono (by omega)))) (by omega) _

set_option maxRecDepth 20000 in
set_option maxHeartbeats 8000000 in
theorem readValidator_bad (m : Nat → Int) (ao : Option Addr) (cap : Nat) (w : World) (hb : Bys w ao 121 cap m) (hm : ∀ j, 0 ≤ m j ∧ m j < 256) (hlc : 121 ≤ cap) (hcap : cap ≤ 9223372036854775807) (hfl : 1 < m 88) :
    Calls Tryd.prog 26 #[.slice ao 121 cap] w fun e w' => e = .returned (.tuple #[.agg (cel (sValidator oValidator)), .int .i64 5]) ∧ Below w.heap.size w w' := by
  have z := zeroValidator
  obtain ⟨W1, hW1⟩ : ∃ W, w.alloc (.cells (cel (sValidator oValidator)) 53) = W := ⟨_, rfl⟩
  obtain ⟨W2, hW2⟩ : ∃ W, W1.alloc (.cells (vs .i64 8 zValidator) 3) = W := ⟨_, rfl⟩
  have hB1 : Below w.heap.size w W1 := by rw [← hW1]; exact (Below.refl _ _).alloc (Nat.le_refl _) _
  have z1 : W1.heap.size = w.heap.size + 1 := by rw [← hW1]; simp
  have z2 : W2.heap.size = w.heap.size + 2 := by rw [← hW2]; simp [z1]
  have hB2 : Below w.heap.size w W2 := by rw [← hW2]; exact hB1.alloc (by omega) _
  have r1 : W1.heap[w.heap.size]? = some (.cells (cel (sValidator oValidator)) 53) := by rw [← hW1]; exact heap_new rfl
  have r2 : W2.heap[w.heap.size]? = some (.cells (cel (sValidator oValidator)) 53) := by rw [← hW2]; exact (heap_old (by omega)).trans r1
  have g2 : W2.heap[W1.heap.size]? = some (.cells (vs .i64 8 zValidator) 3) := by rw [← hW2]; exact heap_new rfl
  have bsi := bsI_Validator W1
  rw [hW2] at bsi
  have hcut := cut7_ok fixValidator m ao cap W1.heap.size W2 (hb.below hB2) hm (by omega) hlc hcap g2 (by omega) zposValidator (by omega)
  obtain ⟨y, ey⟩ : ∃ y, w.heap.size = y := ⟨_, rfl⟩
  obtain ⟨y1, ey1⟩ : ∃ y, W1.heap.size = y := ⟨_, rfl⟩
  rw [ey1] at bsi hcut
  have hy : y < W2.heap.size := by omega
  rw [ey] at r2
  have HCUT := hid hcut
  have R2 := hid r2
  have HB2 := hid hB2
  have HY := hid hy
  have EY := hid ey
  clear hcut r2 hB2 hy r1 g2 hB1 z1 z2 hlc hcap hb
  have HFL := hid hfl
  clear hfl
  go_enter Tryd.func26, Tryd.ntmps26
  go_upto_region 2 with (go_at_call 57; refine HCUT.out.mono ?_; rintro e w1 ⟨gp, o, rfl, hgp, hcu, hb1⟩)
  clear hW1 hW2 ey ey1 bsi
  obtain ⟨b0, o0, c0, l0, q0⟩ := hcu 0 (by omega)
  replace l0 : w1.cell? ⟨gp, o + 0, none⟩ = some (.slice (some ⟨b0, o0, none⟩) 48 c0) := l0
  replace q0 : Bys w1 (some ⟨b0, o0, none⟩) 48 c0 (fun q => m (0 + q)) := q0
  obtain ⟨P0, eP0⟩ : ∃ P, o + 0 = P := ⟨_, rfl⟩
  rw [eP0] at l0
  have ix0 : ∀ X : World, (ixP (.slice (some ⟨gp, o, none⟩) 8 8) (.int .i64 0)).run Tryd.prog X = .ok (.pointer (some ⟨gp, P0, none⟩)) X := fun X => by rw [← eP0]; exact ixP_run X gp o 8 8 0 (by omega)
  obtain ⟨b1, o1, c1, l1, q1⟩ := hcu 1 (by omega)
  replace l1 : w1.cell? ⟨gp, o + 1, none⟩ = some (.slice (some ⟨b1, o1, none⟩) 32 c1) := l1
  replace q1 : Bys w1 (some ⟨b1, o1, none⟩) 32 c1 (fun q => m (48 + q)) := q1
  obtain ⟨P1, eP1⟩ : ∃ P, o + 1 = P := ⟨_, rfl⟩
  rw [eP1] at l1
  have ix1 : ∀ X : World, (ixP (.slice (some ⟨gp, o, none⟩) 8 8) (.int .i64 1)).run Tryd.prog X = .ok (.pointer (some ⟨gp, P1, none⟩)) X := fun X => by rw [← eP1]; exact ixP_run X gp o 8 8 1 (by omega)
  obtain ⟨b2, o2, c2, l2, q2⟩ := hcu 2 (by omega)
  replace l2 : w1.cell? ⟨gp, o + 2, none⟩ = some (.slice (some ⟨b2, o2, none⟩) 8 c2) := l2
  replace q2 : Bys w1 (some ⟨b2, o2, none⟩) 8 c2 (fun q => m (80 + q)) := q2
  obtain ⟨P2, eP2⟩ : ∃ P, o + 2 = P := ⟨_, rfl⟩
  rw [eP2] at l2
  have ix2 : ∀ X : World, (ixP (.slice (some ⟨gp, o, none⟩) 8 8) (.int .i64 2)).run Tryd.prog X = .ok (.pointer (some ⟨gp, P2, none⟩)) X := fun X => by rw [← eP2]; exact ixP_run X gp o 8 8 2 (by omega)
  obtain ⟨b3, o3, c3, l3, q3⟩ := hcu 3 (by omega)
  replace l3 : w1.cell? ⟨gp, o + 3, none⟩ = some (.slice (some ⟨b3, o3, none⟩) 1 c3) := l3
  replace q3 : Bys w1 (some ⟨b3, o3, none⟩) 1 c3 (fun q => m (88 + q)) := q3
  obtain ⟨P3, eP3⟩ : ∃ P, o + 3 = P := ⟨_, rfl⟩
  rw [eP3] at l3
  have ix3 : ∀ X : World, (ixP (.slice (some ⟨gp, o, none⟩) 8 8) (.int .i64 3)).run Tryd.prog X = .ok (.pointer (some ⟨gp, P3, none⟩)) X := fun X => by rw [← eP3]; exact ixP_run X gp o 8 8 3 (by omega)
  obtain ⟨b4, o4, c4, l4, q4⟩ := hcu 4 (by omega)
  replace l4 : w1.cell? ⟨gp, o + 4, none⟩ = some (.slice (some ⟨b4, o4, none⟩) 8 c4) := l4
  replace q4 : Bys w1 (some ⟨b4, o4, none⟩) 8 c4 (fun q => m (89 + q)) := q4
  obtain ⟨P4, eP4⟩ : ∃ P, o + 4 = P := ⟨_, rfl⟩
  rw [eP4] at l4
  have ix4 : ∀ X : World, (ixP (.slice (some ⟨gp, o, none⟩) 8 8) (.int .i64 4)).run Tryd.prog X = .ok (.pointer (some ⟨gp, P4, none⟩)) X := fun X => by rw [← eP4]; exact ixP_run X gp o 8 8 4 (by omega)
  obtain ⟨b5, o5, c5, l5, q5⟩ := hcu 5 (by omega)
  replace l5 : w1.cell? ⟨gp, o + 5, none⟩ = some (.slice (some ⟨b5, o5, none⟩) 8 c5) := l5
  replace q5 : Bys w1 (some ⟨b5, o5, none⟩) 8 c5 (fun q => m (97 + q)) := q5
  obtain ⟨P5, eP5⟩ : ∃ P, o + 5 = P := ⟨_, rfl⟩
  rw [eP5] at l5
  have ix5 : ∀ X : World, (ixP (.slice (some ⟨gp, o, none⟩) 8 8) (.int .i64 5)).run Tryd.prog X = .ok (.pointer (some ⟨gp, P5, none⟩)) X := fun X => by rw [← eP5]; exact ixP_run X gp o 8 8 5 (by omega)
  obtain ⟨b6, o6, c6, l6, q6⟩ := hcu 6 (by omega)
  replace l6 : w1.cell? ⟨gp, o + 6, none⟩ = some (.slice (some ⟨b6, o6, none⟩) 8 c6) := l6
  replace q6 : Bys w1 (some ⟨b6, o6, none⟩) 8 c6 (fun q => m (105 + q)) := q6
  obtain ⟨P6, eP6⟩ : ∃ P, o + 6 = P := ⟨_, rfl⟩
  rw [eP6] at l6
  have ix6 : ∀ X : World, (ixP (.slice (some ⟨gp, o, none⟩) 8 8) (.int .i64 6)).run Tryd.prog X = .ok (.pointer (some ⟨gp, P6, none⟩)) X := fun X => by rw [← eP6]; exact ixP_run X gp o 8 8 6 (by omega)
  obtain ⟨b7, o7, c7, l7, q7⟩ := hcu 7 (by omega)
  replace l7 : w1.cell? ⟨gp, o + 7, none⟩ = some (.slice (some ⟨b7, o7, none⟩) 8 c7) := l7
  replace q7 : Bys w1 (some ⟨b7, o7, none⟩) 8 c7 (fun q => m (113 + q)) := q7
  obtain ⟨P7, eP7⟩ : ∃ P, o + 7 = P := ⟨_, rfl⟩
  rw [eP7] at l7
  have ix7 : ∀ X : World, (ixP (.slice (some ⟨gp, o, none⟩) 8 8) (.int .i64 7)).run Tryd.prog X = .ok (.pointer (some ⟨gp, P7, none⟩)) X := fun X => by rw [← eP7]; exact ixP_run X gp o 8 8 7 (by omega)
  obtain ⟨N2, eN2⟩ : ∃ N, rdN (fun q => m (80 + q)) = N := ⟨_, rfl⟩
  have hn2 : ∀ X, Below w1.heap.size w1 X → Calls Tryd.prog 58 #[.slice (some ⟨b2, o2, none⟩) 8 c2] X fun e w' => e = .returned (.int .u64 N2) ∧ w' = X := fun X h => by
    rw [← eN2]
    exact rnum7 (some ⟨b2, o2, none⟩) c2 (fun q => m (80 + q)) X (q2.below h) (fun j _ => hm _)
  have HN2 := hid hn2
  obtain ⟨N4, eN4⟩ : ∃ N, rdN (fun q => m (89 + q)) = N := ⟨_, rfl⟩
  have hn4 : ∀ X, Below w1.heap.size w1 X → Calls Tryd.prog 58 #[.slice (some ⟨b4, o4, none⟩) 8 c4] X fun e w' => e = .returned (.int .u64 N4) ∧ w' = X := fun X h => by
    rw [← eN4]
    exact rnum7 (some ⟨b4, o4, none⟩) c4 (fun q => m (89 + q)) X (q4.below h) (fun j _ => hm _)
  have HN4 := hid hn4
  obtain ⟨N5, eN5⟩ : ∃ N, rdN (fun q => m (97 + q)) = N := ⟨_, rfl⟩
  have hn5 : ∀ X, Below w1.heap.size w1 X → Calls Tryd.prog 58 #[.slice (some ⟨b5, o5, none⟩) 8 c5] X fun e w' => e = .returned (.int .u64 N5) ∧ w' = X := fun X h => by
    rw [← eN5]
    exact rnum7 (some ⟨b5, o5, none⟩) c5 (fun q => m (97 + q)) X (q5.below h) (fun j _ => hm _)
  have HN5 := hid hn5
  obtain ⟨N6, eN6⟩ : ∃ N, rdN (fun q => m (105 + q)) = N := ⟨_, rfl⟩
  have hn6 : ∀ X, Below w1.heap.size w1 X → Calls Tryd.prog 58 #[.slice (some ⟨b6, o6, none⟩) 8 c6] X fun e w' => e = .returned (.int .u64 N6) ∧ w' = X := fun X h => by
    rw [← eN6]
    exact rnum7 (some ⟨b6, o6, none⟩) c6 (fun q => m (105 + q)) X (q6.below h) (fun j _ => hm _)
  have HN6 := hid hn6
  obtain ⟨N7, eN7⟩ : ∃ N, rdN (fun q => m (113 + q)) = N := ⟨_, rfl⟩
  have hn7 : ∀ X, Below w1.heap.size w1 X → Calls Tryd.prog 58 #[.slice (some ⟨b7, o7, none⟩) 8 c7] X fun e w' => e = .returned (.int .u64 N7) ∧ w' = X := fun X h => by
    rw [← eN7]
    exact rnum7 (some ⟨b7, o7, none⟩) c7 (fun q => m (113 + q)) X (q7.below h) (fun j _ => hm _)
  have HN7 := hid hn7
  obtain ⟨N3, eN3⟩ : ∃ N, (m 88 == 1) = N := ⟨_, rfl⟩
  have hn3 : ∀ X, Below w1.heap.size w1 X → Calls Tryd.prog 64 #[.slice (some ⟨b3, o3, none⟩) 1 c3] X fun e w' => e = .returned (.tuple #[.bool false, .int .i64 5]) ∧ w' = X := fun X h => by
    obtain ⟨b', o', e', h1, h2, h3⟩ := bys_at (q3.below h) (by omega)
    cases e'
    have hc := h3 0 (by omega)
    rw [Nat.add_zero] at hc
    exact Z.bool_big b3 o3 c3 _ X hc (by have := HFL.out; omega)
  have HN3 := hid hn3
  have EN2 := hid eN2
  have EN4 := hid eN4
  have EN5 := hid eN5
  have EN6 := hid eN6
  have EN7 := hid eN7
  have EN3 := hid eN3
  have Q0 := hid q0
  have L0 := hid l0
  have Q1 := hid q1
  have L1 := hid l1
  have Q2 := hid q2
  have L2 := hid l2
  have Q3 := hid q3
  have L3 := hid l3
  have Q4 := hid q4
  have L4 := hid l4
  have Q5 := hid q5
  have L5 := hid l5
  have Q6 := hid q6
  have L6 := hid l6
  have Q7 := hid q7
  have L7 := hid l7
  have HB1 := hid hb1
  have HGP := hid hgp
  clear q0 eP0 q1 eP1 q2 eP2 q3 eP3 q4 eP4 q5 eP5 q6 eP6 q7 eP7 hn2 eN2 hn4 eN4 hn5 eN5 hn6 eN6 hn7 eN7 hn3 eN3 hb1 hgp hcu
  go_upto_region 5 with (go_at_call 64; refine (HN3.out _ (Below.refl _ _)).mono ?_; rintro e w2 ⟨rfl, hw⟩; obtain rfl := hw.symm)
  have rr := (HB1.out.block _ HY.out).trans R2.out
  have sv := svValidator_run rr oValidator
  have bd := bdValidator_0
  have RR := hid rr
  clear rr
  go_wp2
  refine retValidator _ _ y oValidator 53 _ rfl rfl rfl rfl (setRow_at RR.out) ⟨rfl, ?_⟩
  have e0 := EY.out
  have e1 := HB2.out.size
  exact below_row (HB2.out.trans (HB1.out.mono (by omega))) (by omega) _

end Go.Proofs.YtaodonmbanpieaaDoor
