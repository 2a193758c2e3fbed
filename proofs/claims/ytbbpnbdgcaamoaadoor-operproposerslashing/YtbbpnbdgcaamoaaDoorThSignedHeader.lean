/-
  What Read answers.
-/
import Derived.Test.YtbbpnbdgcaamoaaDoorCoA
import Derived.Test.YtbbpnbdgcaamoaaDoorCoB
import Derived.Test.YtbbpnbdgcaamoaaDoorCoC
import Derived.Test.YtbbpnbdgcaamoaaDoorThHeader
namespace Go.Proofs.YtbbpnbdgcaamoaaDoor
open Go.RowKit
set_option linter.unusedVariables false
set_option linter.unusedSimpArgs false

attribute [local go_sem ↓] sv24_eq lv24_eq ix22_eq slr_eq bd27_eq bs22_eq sv8_eq mkI_eq ixI_eq ixP_eq bsP_eq bsI_eq lvCheckpoint_eq svCheckpoint_eq bdCheckpoint_eq lvData_eq svData_eq bdData_eq lvHeader_eq svHeader_eq bdHeader_eq lvDepositData_eq svDepositData_eq bdDepositData_eq lvSignedHeader_eq svSignedHeader_eq bdSignedHeader_eq

end Go.Proofs.YtbbpnbdgcaamoaaDoor
namespace Go.Proofs.YtbbpnbdgcaamoaaDoor
open Go.RowKit
set_option linter.unusedVariables false
set_option linter.unusedSimpArgs false

attribute [local go_sem ↓] sv24_eq lv24_eq ix22_eq slr_eq bd27_eq bs22_eq sv8_eq mkI_eq ixI_eq ixP_eq bsP_eq bsI_eq lvCheckpoint_eq svCheckpoint_eq bdCheckpoint_eq lvData_eq svData_eq bdData_eq lvHeader_eq svHeader_eq bdHeader_eq lvSignedHeader_eq svSignedHeader_eq bdSignedHeader_eq

set_option maxRecDepth 20000 in
set_option maxHeartbeats 2000000 in
theorem readSignedHeader_ok (m : Nat → Int) (ao : Option Addr) (cap : Nat) (w : World) (hb : Bys w ao 208 cap m) (hm : ∀ j, 0 ≤ m j ∧ m j < 256) (hlc : 208 ≤ cap) (hcap : cap ≤ 9223372036854775807) :
    Calls Tryd.prog 52 #[.slice ao 208 cap] w fun e w' => e = .returned (.tuple #[.agg (cel (sSignedHeader (pSignedHeader m))), .int .i64 0]) ∧ Below w.heap.size w w' := by
  have z := zeroSignedHeader
  obtain ⟨W1, hW1⟩ : ∃ W, w.alloc (.cells (cel (sSignedHeader oSignedHeader)) 47) = W := ⟨_, rfl⟩
  obtain ⟨W2, hW2⟩ : ∃ W, W1.alloc (.cells (vs .i64 2 zSignedHeader) 3) = W := ⟨_, rfl⟩
  have hB1 : Below w.heap.size w W1 := by rw [← hW1]; exact (Below.refl _ _).alloc (Nat.le_refl _) _
  have z1 : W1.heap.size = w.heap.size + 1 := by rw [← hW1]; simp
  have z2 : W2.heap.size = w.heap.size + 2 := by rw [← hW2]; simp [z1]
  have hB2 : Below w.heap.size w W2 := by rw [← hW2]; exact hB1.alloc (by omega) _
  have r1 : W1.heap[w.heap.size]? = some (.cells (cel (sSignedHeader oSignedHeader)) 47) := by rw [← hW1]; exact heap_new rfl
  have r2 : W2.heap[w.heap.size]? = some (.cells (cel (sSignedHeader oSignedHeader)) 47) := by rw [← hW2]; exact (heap_old (by omega)).trans r1
  have g2 : W2.heap[W1.heap.size]? = some (.cells (vs .i64 2 zSignedHeader) 3) := by rw [← hW2]; exact heap_new rfl
  have bsi := bsI_SignedHeader W1
  rw [hW2] at bsi
  have hcut := cut7_ok fixSignedHeader m ao cap W1.heap.size W2 (hb.below hB2) hm (by omega) hlc hcap g2 (by omega) zposSignedHeader (by omega)
  obtain ⟨y, ey⟩ : ∃ y, w.heap.size = y := ⟨_, rfl⟩
  obtain ⟨y1, ey1⟩ : ∃ y, W1.heap.size = y := ⟨_, rfl⟩
  rw [ey1] at bsi hcut
  have hy : y < W2.heap.size := by omega
  rw [ey] at r2
  have HCUT := hid hcut
  have R2 := hid r2
  have HB2 := hid hB2
  have HY := hid hy
  have EY := hid ey
  clear hcut r2 hB2 hy r1 g2 hB1 z1 z2 hlc hcap hb
  go_enter Tryd.func52, Tryd.ntmps52
  go_upto_region 2 with (go_at_call 40; refine HCUT.out.mono ?_; rintro e w1 ⟨gp, o, rfl, hgp, hcu, hb1⟩)
  clear hW1 hW2 ey ey1 bsi
  obtain ⟨b0, o0, c0, l0, q0⟩ := hcu 0 (by omega)
  replace l0 : w1.cell? ⟨gp, o + 0, none⟩ = some (.slice (some ⟨b0, o0, none⟩) 112 c0) := l0
  replace q0 : Bys w1 (some ⟨b0, o0, none⟩) 112 c0 (fun q => m (0 + q)) := q0
  obtain ⟨P0, eP0⟩ : ∃ P, o + 0 = P := ⟨_, rfl⟩
  rw [eP0] at l0
  have ix0 : ∀ X : World, (ixP (.slice (some ⟨gp, o, none⟩) 2 2) (.int .i64 0)).run Tryd.prog X = .ok (.pointer (some ⟨gp, P0, none⟩)) X := fun X => by rw [← eP0]; exact ixP_run X gp o 2 2 0 (by omega)
  obtain ⟨b1, o1, c1, l1, q1⟩ := hcu 1 (by omega)
  replace l1 : w1.cell? ⟨gp, o + 1, none⟩ = some (.slice (some ⟨b1, o1, none⟩) 96 c1) := l1
  replace q1 : Bys w1 (some ⟨b1, o1, none⟩) 96 c1 (fun q => m (112 + q)) := q1
  obtain ⟨P1, eP1⟩ : ∃ P, o + 1 = P := ⟨_, rfl⟩
  rw [eP1] at l1
  have ix1 : ∀ X : World, (ixP (.slice (some ⟨gp, o, none⟩) 2 2) (.int .i64 1)).run Tryd.prog X = .ok (.pointer (some ⟨gp, P1, none⟩)) X := fun X => by rw [← eP1]; exact ixP_run X gp o 2 2 1 (by omega)
  obtain ⟨N0, eN0⟩ : ∃ N, pHeader (fun q => m (0 + q)) = N := ⟨_, rfl⟩
  have hn0 : ∀ X, Below w1.heap.size w1 X → Calls Tryd.prog 103 #[.slice (some ⟨b0, o0, none⟩) 112 c0] X fun e w' => e = .returned (.tuple #[.agg (cel (sHeader N0)), .int .i64 0]) ∧ Below X.heap.size X w' := fun X h => by
    rw [← eN0]
    exact readHeader_ok _ _ c0 X (q0.below h) (fun j => hm _) (bys_le (q0.below h) (by omega)) (bys_cap (q0.below h) (by omega))
  have HN0 := hid hn0
  have EN0 := hid eN0
  have Q0 := hid q0
  have L0 := hid l0
  have Q1 := hid q1
  have L1 := hid l1
  have HB1 := hid hb1
  have HGP := hid hgp
  obtain ⟨g, eg⟩ : ∃ g, w1.heap.size = g := ⟨_, rfl⟩
  obtain ⟨V0, hV0⟩ : ∃ V, w1.alloc (.cells (cel (sSignedHeader oSignedHeader)) 47) = V := ⟨_, rfl⟩
  have hB0 : Below g w1 V0 := by rw [← hV0, ← eg]; exact (Below.refl _ _).alloc (Nat.le_refl _) _
  have rV0 : V0.heap[g]? = some (.cells (cel (sSignedHeader ⟨oHeader, fun _ => 0⟩)) 47) := by rw [← hV0]; exact heap_new eg.symm
  have EG := hid eg
  have RV0 := hid rV0
  have HV0 := hid hB0
  clear rV0 hB0 q0 eP0 q1 eP1 hn0 eN0 hb1 hgp hcu
  go_upto_region 5 with fail
  clear hV0 eg z
  have ld := (below_cell HV0.out (by rw [← EG.out]; exact HGP.out)).trans L0.out
  have HRC := hid (HN0.out _ (by rw [EG.out]; exact HV0.out))
  go_upto_region 6 with (go_at_call 103; refine HRC.out.mono ?_; rintro e w2 ⟨rfl, hbc⟩; have rg := (hbc.block g (Array.getElem?_eq_some_iff.1 RV0.out).1).trans RV0.out; have sv := svHeader_mid rg 0 N0 (by rw [cel_size, slSignedHeader]; omega); have RG := hid rg; have HBC := hid hbc; clear rg hbc)
  obtain ⟨V1, hV⟩ : ∃ V, w2.setCells g 0 (celL (sHeader N0)) = V := ⟨_, rfl⟩
  have RV1 : Hid (V1.heap[g]? = some (.cells (cel (sSignedHeader ⟨N0, fun _ => 0⟩)) 47)) := by rw [← hV]; exact (setCells_row _ _ RG.out).trans (congrArg (fun c => some (Obj.cells c 47)) (by kernel_rfl))
  have HV1 : Hid (Below g w1 V1) := by rw [← hV]; exact (HV0.out.trans (HBC.out.mono (Nat.le_of_lt (Array.getElem?_eq_some_iff.1 RV0.out).1))).trans ((setCells_kept _ _ (Kept.refl g w2)).below (Nat.le_refl _) (Nat.le_of_lt (Array.getElem?_eq_some_iff.1 RG.out).1))
  rw [hV]
  clear hV ld sv RG HBC HRC
  have hsrc1 : ∀ j, j < 96 → (V1.drew).cell? (Addr.add ⟨b1, o1, none⟩ j) = some (.int .u8 (m (112 + j))) := fun j hj => by
    obtain ⟨b', o', e', _, _, h'⟩ := bys_at (Q1.out.below (w' := V1.drew) (by rw [EG.out]; exact HV1.out.drew)) (by omega)
    cases e'
    rw [Addr.add_mid]
    exact h' j hj
  have HCP1 := hid (copy_seg V1.drew g 98 96 (sSignedHeader ⟨N0, fun _ => 0⟩) (sSignedHeader ⟨N0, fun q => m (112 + q)⟩) (fun q => m (112 + q)) ⟨b1, o1, none⟩ c1 96 47 RV1.out (by rw [slSignedHeader]; omega) hsrc1 (by kernel_rfl))
  clear hsrc1
  refine wp_region_noPanic ?_
  refine wp_region_held_drew (S := fun X => Below g w1 X) (by kernel_rfl) (HV1.out.drew) (fun hHeld => ?_)
  refine wpAnyH_take (i := 0) (v := ?v273) rfl (by kernel_rfl) (by kernel_rfl) (by kernel_rfl) (fun _ _ _ h => h) (Or.inl ⟨by rfl, ?hy273⟩) hHeld ?rest273
  case hy273 =>
    intro w hSw
    go_simp
    try with_reducible rfl
  try simp only [Act.put, List.setIfInBounds_toArray, List.set_cons_zero, List.set_cons_succ, Array.toArray_toList, List.getElem_toArray, List.getElem_cons_zero, List.getElem_cons_succ]
  refine wpAnyH_take (i := 1) (v := ?v274) rfl (by kernel_rfl) (by kernel_rfl) (by kernel_rfl) (fun _ _ _ h => h) (Or.inl ⟨by rfl, ?hy274⟩) hHeld ?rest274
  case hy274 =>
    intro w hSw
    go_simp
    try with_reducible rfl
  try simp only [Act.put, List.setIfInBounds_toArray, List.set_cons_zero, List.set_cons_succ, Array.toArray_toList, List.getElem_toArray, List.getElem_cons_zero, List.getElem_cons_succ]
  refine wpAnyH_take (i := 2) (v := ?v275) rfl (by kernel_rfl) (by kernel_rfl) (by kernel_rfl) (fun _ _ _ h => h) (Or.inl ⟨by rfl, ?hy275⟩) hHeld ?rest275
  case hy275 =>
    intro w hSw
    go_simp
    try with_reducible rfl
  try simp only [Act.put, List.setIfInBounds_toArray, List.set_cons_zero, List.set_cons_succ, Array.toArray_toList, List.getElem_toArray, List.getElem_cons_zero, List.getElem_cons_succ]
  refine wpAnyH_take (i := 3) (v := ?v276) rfl (by kernel_rfl) (by kernel_rfl) (by kernel_rfl) (fun _ _ _ h => h) (Or.inl ⟨by rfl, ?hy276⟩) hHeld ?rest276
  case hy276 =>
    intro w hSw
    go_simp
    try with_reducible rfl
  try simp only [Act.put, List.setIfInBounds_toArray, List.set_cons_zero, List.set_cons_succ, Array.toArray_toList, List.getElem_toArray, List.getElem_cons_zero, List.getElem_cons_succ]
  refine wpAnyH_take (i := 4) (v := ?v277) rfl (by kernel_rfl) (by kernel_rfl) (by kernel_rfl) (fun _ _ _ h => h) (Or.inl ⟨by rfl, ?hy277⟩) hHeld ?rest277
  case hy277 =>
    intro w hSw
    have ld := (below_cell hSw (by rw [← EG.out]; exact HGP.out)).trans L1.out
    go_simp
    try with_reducible rfl
  try simp only [Act.put, List.setIfInBounds_toArray, List.set_cons_zero, List.set_cons_succ, Array.toArray_toList, List.getElem_toArray, List.getElem_cons_zero, List.getElem_cons_succ]
  refine wpAnyH_ready (rs := [5]) (by kernel_rfl) (by simp) ?_
  refine AllReadyH.cons rfl (fun K hK => ?_) AllReadyH.nil
  refine step_copy_is (by rfl) _ _ 34 34 (by rfl) _ _ _ _ (by rfl) (by rfl) HCP1.out ?_
  refine hK.out _ _ (below_row HV1.out.drew (Nat.le_refl _) _) (fun hHeld => ?_)
  clear hK K
  try simp only [Act.put, List.setIfInBounds_toArray, List.set_cons_zero, List.set_cons_succ, Array.toArray_toList, List.getElem_toArray, List.getElem_cons_zero, List.getElem_cons_succ]
  refine wpAnyH_done (by kernel_rfl) ?_ _
  refine NoPanic.normal ?_
  obtain ⟨V2, hV2⟩ : ∃ V, (V1.drew).setRow g (cel (sSignedHeader ⟨N0, fun q => m (112 + q)⟩)) = V := ⟨_, rfl⟩
  have RV2 : Hid (V2.heap[g]? = some (.cells (cel (sSignedHeader ⟨N0, fun q => m (112 + q)⟩)) 47)) := by rw [← hV2]; exact setRow_at (w := V1.drew) RV1.out
  have HV2 : Hid (Below g w1 V2) := by rw [← hV2]; exact below_row HV1.out.drew (Nat.le_refl _) _
  rw [hV2]
  clear hV2
  obtain ⟨vv, ev⟩ : ∃ v : VSignedHeader, ⟨N0, fun q => m (112 + q)⟩ = v := ⟨_, rfl⟩
  have rv := RV2.out
  rw [ev] at rv
  have rr : V2.heap[y]? = some (.cells (cel (sSignedHeader oSignedHeader)) 47) := (HV2.out.block _ (by rw [← EG.out]; exact Nat.lt_of_lt_of_le HY.out HB1.out.size)).trans ((HB1.out.block _ HY.out).trans R2.out)
  have sv := svSignedHeader_run rr vv
  have lv := lvSignedHeader_mid (x := vv) rv 0 (take_all _) rfl
  have RR := hid rr
  have EV := hid ev
  clear rr rv ev
  go_wp2
  refine retSignedHeader _ _ y vv 47 _ rfl rfl rfl rfl (setRow_at RR.out) ⟨?_, ?_⟩
  · rw [← EV.out, ← EN0.out]
    rfl
  have e0 := EY.out
  have e1 := HB2.out.size
  have e2 := HB1.out.size
  have e3 := EG.out
  exact below_row (HB2.out.trans ((HB1.out.mono (by omega)).trans (HV2.out.mono (by omega)))) (by omega) _

end Go.Proofs.YtbbpnbdgcaamoaaDoor
