/-
  StateRight, walked.
-/

import Derived.Test.YtehpfemlcjcabaaSuC
import Derived.Test.YtehpfemlcjcabaaSuE
import Derived.Test.YtehpfemlcjcabaaStY
import Derived.Deep.RegionHeld3

namespace Go.Proofs.Ytehpfemlcjcabaa

open Go.RowKit

set_option linter.unusedVariables false

set_option linter.unusedSimpArgs false

set_option maxRecDepth 20000

theorem right_simF {x X : VState} (h : SimF x X) : rightB X = rightB x := by
  unfold rightB fitB lensB timB
  rw [h.e2, h.e4, h.e10, h.e14, h.e18, h.e19, h.e20, h.l7, h.l9, h.l11, h.z11, h.l12, h.z12, h.l15, h.l16, h.l21, h.z21]

attribute [local go_sem ↓] lvState_eq svState_eq

set_option maxHeartbeats 8000000 in
theorem right_law (x : VState) (w : World) (hx : OkState x) (hw : InW w x) (hn : NilW x) (hl : x.f11.n ≤ 9223372036854775807 ∧ x.f21.n ≤ 9223372036854775807 ∧ x.f12.n ≤ 9223372036854775807) (hr : Rch x) :
    Calls Try.prog 3 #[.agg (cel (sState x))] w fun e w' => e = .returned (.bool true) ∧ Below w.heap.size w w' := by
  obtain ⟨W0, hW0⟩ : ∃ W, w.alloc (.cells (cel (sState x)) 49) = W := ⟨_, rfl⟩
  have hB0 : Below w.heap.size w W0 := by rw [← hW0]; exact (Below.refl _ _).alloc (Nat.le_refl _) _
  have r0 : W0.heap[w.heap.size]? = some (.cells (cel (sState x)) 49) := by rw [← hW0]; exact heap_new rfl
  have z0 : w.heap.size < W0.heap.size := by rw [← hW0]; simp
  obtain ⟨b0, eb⟩ : ∃ y, w.heap.size = y := ⟨_, rfl⟩
  have HLV : Hid (∀ X, Below W0.heap.size W0 X → (lvState ⟨b0, 0, none⟩).run Try.prog X = .ok (.agg (cel (sState x))) X) := fun X h => lvState_run (by rw [← eb]; exact (h.block _ z0).trans r0)
  have HIN : Hid (∀ X, Below W0.heap.size W0 X → InW X x) := fun X h => hw.below (hB0.trans (h.mono hB0.size))
  have HB0w := hid hB0
  have HX := hid hx
  have HNW := hid hn
  have HL := hid hl
  have HR := hid hr
  have z := zeroState
  clear hB0 r0 hx hw hn hl hr
  go_enter Try.func3, Try.ntmps3
  go_upto_region 1 with fail
  clear hW0 eb z0
  go_upto_region 3 with (go_at_call 6; refine (awake10 _).mono ?_; rintro e w2 ⟨rfl, hb⟩; have S2 := hid hb; have lv2 := HLV.out _ S2.out; clear hb)
  have HCP := hid (copy_full x w2 (HIN.out _ S2.out) HNW.out HR.out)
  go_upto_region 4 with (go_at_call 7; refine HCP.out.mono ?_; rintro e w3 ⟨X, rfl, hsim, hcp, hb⟩; have sv := svState_newv w3 oState X; have HSM := hid hsim; have HCD := hid hcp; have HB3 := hid hb; clear hb hsim hcp)
  clear lv2 HCP z
  obtain ⟨y, ey⟩ : ∃ y, w3.heap.size = y := ⟨_, rfl⟩
  obtain ⟨V0, hV⟩ : ∃ V, w3.alloc (.cells (cel (sState X)) 49) = V := ⟨_, rfl⟩
  have HBF : Hid (BF w2 y V0 X) := by
    have hbv : Below w3.heap.size w3 V0 := by rw [← hV]; exact (Below.refl _ _).alloc (Nat.le_refl _) _
    refine ⟨HB3.out.trans (hbv.mono HB3.out.size), ?_, HCD.out.below hbv⟩
    rw [← hV, ← ey]
    exact heap_new rfl
  have HOX := hid (okF_sim HSM.out HX.out)
  have SV := hid (S2.out.trans (HBF.out.bel.mono S2.out.size))
  rw [hV, ey]
  clear hV ey sv HCD HB3
  obtain ⟨B, eB⟩ : ∃ B, rightB x = B := ⟨_, rfl⟩
  have C1 : Hid (∀ Y, Below V0.heap.size V0 Y → Calls Try.prog 8 #[.agg (cel (sState x))] Y fun e w' => e = .returned (.bool B) ∧ Below Y.heap.size Y w') := fun Y h => by
    rw [← eB]
    exact right_any x Y HX.out.r (HIN.out _ (SV.out.trans (h.mono SV.out.size))).r HL.out
  have C2 : Hid (∀ Y, Below V0.heap.size V0 Y → Calls Try.prog 9 #[.agg (cel (sState X))] Y fun e w' => e = .returned (.bool B) ∧ Below Y.heap.size Y w') := fun Y h => by
    rw [← eB, ← right_simF HSM.out]
    exact rright_any X Y HOX.out.r (HBF.out.below h).inW.r ⟨HOX.out.o10.1, HOX.out.o4.1.1, HOX.out.o18.1.1, HOX.out.o19.1.1, HOX.out.o20.1.1⟩
  have C3 : Hid (∀ Y, Below V0.heap.size V0 Y → Calls Try.prog 10 #[.agg (cel (sState x)), .agg (cel (sState X))] Y fun e w' => e = .returned (.bool true) ∧ Below Y.heap.size Y w') := fun Y h =>
    rsame_eq x X Y HX.out HOX.out (HIN.out _ (SV.out.trans (h.mono SV.out.size))) (HBF.out.below h).inW (rES_sim HSM.out).1 (rES_sim HSM.out).2
  have LX : Hid (∀ Y, Below V0.heap.size V0 Y → (lvState ⟨b0, 0, none⟩).run Try.prog Y = .ok (.agg (cel (sState x))) Y) := fun Y h => HLV.out _ (SV.out.trans (h.mono SV.out.size))
  have LY : Hid (∀ Y, Below V0.heap.size V0 Y → (lvState ⟨y, 0, none⟩).run Try.prog Y = .ok (.agg (cel (sState X))) Y) := fun Y h => lvState_run (HBF.out.below h).row
  clear eB HBF HOX HSM HIN HLV HX HNW HL HR
  refine wp_region_noPanic ?_
  refine wp_region_held_drew (S := fun Y => Below V0.heap.size V0 Y) (by kernel_rfl) ((Below.refl V0.heap.size V0).drew) (fun hHeld => ?_)
  refine tk 0 (v := ?v1) ?y1 hHeld ?r1
  case y1 => intro w hSw; have ld := LX.out _ hSw; go_simp; try with_reducible rfl
  refine tk 2 (v := ?v2) ?y2 hHeld ?r2
  case y2 => intro w hSw; have ld := LY.out _ hSw; go_simp; try with_reducible rfl
  try simp only [Act.put, List.setIfInBounds_toArray, List.set_cons_zero, List.set_cons_succ, Array.toArray_toList, List.getElem_toArray, List.getElem_cons_zero, List.getElem_cons_succ]
  refine wpAnyH_ready (rs := [1]) (by kernel_rfl) (by simp) ?_
  refine AllReadyH.cons rfl (fun K hK => ?_) AllReadyH.nil
  go_simp
  refine (C1.out _ hHeld).mono ?_
  rintro e w4 ⟨rfl, hb4⟩
  dsimp only
  refine hK.out _ _ (hHeld.trans (hb4.mono hHeld.size)) (fun hHeld => ?_)
  clear hK K
  try simp only [Act.put, List.setIfInBounds_toArray, List.set_cons_zero, List.set_cons_succ, Array.toArray_toList, List.getElem_toArray, List.getElem_cons_zero, List.getElem_cons_succ]
  refine wpAnyH_ready (rs := [3]) (by kernel_rfl) (by simp) ?_
  refine AllReadyH.cons rfl (fun K hK => ?_) AllReadyH.nil
  go_simp
  refine (C2.out _ hHeld).mono ?_
  rintro e w5 ⟨rfl, hb5⟩
  dsimp only
  refine hK.out _ _ (hHeld.trans (hb5.mono hHeld.size)) (fun hHeld => ?_)
  clear hK K
  try simp only [Act.put, List.setIfInBounds_toArray, List.set_cons_zero, List.set_cons_succ, Array.toArray_toList, List.getElem_toArray, List.getElem_cons_zero, List.getElem_cons_succ]
  refine tk 4 (v := ?v3) ?y3 hHeld ?r3
  case y3 => intro w hSw; go_simp; try with_reducible rfl
  refine tk 5 (v := ?v4) ?y4 hHeld ?r4
  case y4 => intro w hSw; go_simp; try with_reducible rfl
  refine tk 6 (v := ?v5) ?y5 hHeld ?r5
  case y5 => intro w hSw; have ld := LX.out _ hSw; go_simp; try with_reducible rfl
  refine tk 7 (v := ?v6) ?y6 hHeld ?r6
  case y6 => intro w hSw; have ld := LY.out _ hSw; go_simp; try with_reducible rfl
  try simp only [Act.put, List.setIfInBounds_toArray, List.set_cons_zero, List.set_cons_succ, Array.toArray_toList, List.getElem_toArray, List.getElem_cons_zero, List.getElem_cons_succ]
  refine wpAnyH_ready (rs := [8]) (by kernel_rfl) (by simp) ?_
  refine AllReadyH.cons rfl (fun K hK => ?_) AllReadyH.nil
  go_simp
  refine (C3.out _ hHeld).mono ?_
  rintro e w6 ⟨rfl, hb6⟩
  dsimp only
  have HF := hid (hHeld.trans (hb6.mono hHeld.size))
  refine hK.out _ _ (hHeld.trans (hb6.mono hHeld.size)) (fun hHeld => ?_)
  clear hK K
  try simp only [Act.put, List.setIfInBounds_toArray, List.set_cons_zero, List.set_cons_succ, Array.toArray_toList, List.getElem_toArray, List.getElem_cons_zero, List.getElem_cons_succ]
  refine tk 9 (v := ?v7) ?y7 hHeld ?r7
  case y7 => intro w hSw; go_simp; try with_reducible rfl
  refine tk 10 (v := ?v8) ?y8 hHeld ?r8
  case y8 => intro w hSw; go_simp; try with_reducible rfl
  try simp only [Act.put, List.setIfInBounds_toArray, List.set_cons_zero, List.set_cons_succ, Array.toArray_toList, List.getElem_toArray, List.getElem_cons_zero, List.getElem_cons_succ]
  refine wpAnyH_done (by kernel_rfl) ?_ _
  refine NoPanic.normal ?_
  go_wp2
  go_ret
  have q1 := HB0w.out.size
  exact ⟨rfl, HB0w.out.trans ((SV.out.mono (by omega)).trans (HF.out.mono (by have := SV.out.size; omega)))⟩

end Go.Proofs.Ytehpfemlcjcabaa
