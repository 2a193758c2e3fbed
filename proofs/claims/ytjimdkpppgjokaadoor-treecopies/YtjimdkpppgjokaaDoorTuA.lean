/-
  The fixed answers that every statement of layer 6 asks first are right.
-/
import Derived.Test.YtjimdkpppgjokaaDoorTsE
import Derived.Test.YtjimdkpppgjokaaDoorMkL
namespace Go.Proofs.YtjimdkpppgjokaaDoor
open Go.RowKit
set_option linter.unusedVariables false
set_option linter.unusedSimpArgs false

/-- Roots that are told by their first bytes. -/
def r1 (x : Int) (j : Nat) : Int := if j = 0 then x else 0
def r2 (x y : Int) (j : Nat) : Int := if j = 0 then x else if j = 1 then y else 0
theorem r1_bd (x : Int) (h0 : 0 ≤ x) (h1 : x < 256) (j : Nat) (_ : j < 32) : 0 ≤ r1 x j ∧ r1 x j < 256 := by
  unfold r1
  by_cases h : j = 0
  · rw [if_pos h]; exact ⟨h0, h1⟩
  · rw [if_neg h]; omega
theorem r2_bd (x y : Int) (h0 : 0 ≤ x) (h1 : x < 256) (h2 : 0 ≤ y) (h3 : y < 256) (j : Nat) (_ : j < 32) : 0 ≤ r2 x y j ∧ r2 x y j < 256 := by
  unfold r2
  by_cases h : j = 0
  · rw [if_pos h]; exact ⟨h0, h1⟩
  · rw [if_neg h]
    by_cases h' : j = 1
    · rw [if_pos h']; exact ⟨h2, h3⟩
    · rw [if_neg h']; omega
set_option maxRecDepth 20000 in
theorem bd27_1 (W : World) (x : Int) : (bd27 #[(0, .int .u8 x)]).run Tryd.prog W = .ok (.agg (vs .u8 32 (r1 x))) W := by kernel_rfl
set_option maxRecDepth 20000 in
theorem bd27_2 (W : World) (x y : Int) : (bd27 #[(0, .int .u8 x), (1, .int .u8 y)]).run Tryd.prog W = .ok (.agg (vs .u8 32 (r2 x y))) W := by kernel_rfl
theorem zero_bd (j : Nat) (_ : j < 32) : (0 : Int) ≤ (fun _ : Nat => (0 : Int)) j ∧ (fun _ : Nat => (0 : Int)) j < 256 := ⟨Int.le_refl _, by show (0 : Int) < 256; decide⟩

attribute [local go_sem ↓] sv24_eq lv24_eq ix22_eq slr_eq bd27_eq bs22_eq eqo_eq

set_option maxRecDepth 20000 in
set_option maxHeartbeats 2000000 in
theorem awake6 (w : World) (hS : Sh w) :
    Calls Tryd.prog 8 #[] w fun e w' => e = .returned (.bool true) ∧ Below w.heap.size w w' := by
  have HS := hid hS
  have hg0 : 0 < w.heap.size := hS.1.1
  have hg1 : 1 < w.heap.size := hS.2.1
  have hnew := tt_new w.heap.size 5 w hS (by omega) (by omega) (Nat.le_refl _)
  rw [show ((5 : Nat) : Int) = 5 from rfl] at hnew
  obtain ⟨t, et⟩ : ∃ t, w.heap.size + 1 = t := ⟨_, rfl⟩
  rw [et] at hnew
  have HNEW := hid hnew
  have b1 := fun W => bd27_1 W 1
  have b0 := bd27_0
  clear hS hnew et
  go_enter Tryd.func8, Tryd.ntmps8
  go_upto_region 2 with (go_at_call 9; refine HNEW.out.mono ?_; rintro e w1 ⟨rfl, hb1, LB1, hl1, ht1⟩)
  have ha := ht1.app (r1 1) (r1_bd 1 (by omega) (by omega))
  rw [show appE 5 0 = 0 from rfl, show appL 5 0 = 1 from rfl] at ha
  have HA := hid ha
  have HB1 := hid hb1
  have HBASE := hid ht1.base
  have HROOM := hid ht1.room
  clear ha hb1 hl1 ht1
  go_upto_region 4 with (first
    | (go_at_call 15; refine HA.out.mono ?_; rintro e w2 ⟨rfl, LB2, cn2, s2, t2, _⟩; have hset := t2.set 1 (fun _ => 0) zero_bd (by omega) (by omega); rw [show getE 1 1 = 1 from rfl] at hset; have HSET := hid hset; have HS2 := hid s2; have HT2 := hid t2; clear s2 t2 hset)
    | (go_at_call 14; refine HSET.out.mono ?_; rintro e w3 ⟨rfl, LB3, cn3, s3, t3, _⟩))
  have hBw3 : Below w.heap.size w w3 := HB1.out.trans (((HS2.out.trans s3).below HBASE.out HROOM.out))
  have t3f := t3.fresh
  have hw3 := hBw3.size
  obtain ⟨LBf, eLB⟩ : ∃ L, lab' w3 LB3 0 = L := ⟨_, rfl⟩
  have hLnew : ∀ k, w3.heap.size ≤ k → LBf k = 0 := fun k hk => by rw [← eLB]; exact lab'_new _ _ _ _ hk
  rw [eLB] at t3f
  obtain ⟨W4, hW4⟩ : ∃ W, w3.alloc (.cells (vs .u8 32 (r1 1)) 33) = W := ⟨_, rfl⟩
  have bs := bs22_1 w3 (r1 1)
  rw [hW4] at bs
  have r4 : W4.heap[w3.heap.size]? = some (.cells (vs .u8 (32 * 1) (r1 1)) 33) := by rw [← hW4]; exact heap_new rfl
  have hB34 : Below w3.heap.size w3 W4 := by rw [← hW4]; exact (Below.refl _ _).alloc (Nat.le_refl _) _
  have htr := tree_any (some ⟨w3.heap.size, 0, none⟩) 1 1 (r1 1) 5 W4 (rts_row r4) (by omega) (fun q hq => r1_bd 1 (by omega) (by omega) q (by omega)) (HS.out.below (hBw3.trans (hB34.mono hw3))) (by omega) (by omega)
  rw [show treeE 1 5 = 0 from rfl] at htr
  have evC : ∀ j, j < 32 → treeV (setV (appV 5 0 (fun _ => 0) (r1 1)) 1 1 (fun _ => 0)) 1 ((5 : Nat) : Int) j = treeV (r1 1) 1 5 j := fun j hj => treeV_same _ _ 1 5 (fun q hq => by
    have e1 : setV (appV 5 0 (fun _ => 0) (r1 1)) 1 1 (fun _ => 0) = appV 5 0 (fun _ => 0) (r1 1) := if_neg (by omega)
    have e2 : appV 5 0 (fun _ => 0) (r1 1) = upr (fun _ => 0) 0 (r1 1) := if_pos (by omega)
    rw [e1, e2]
    unfold upr
    rw [if_neg (by omega), Nat.mul_zero, Nat.sub_zero]) j hj
  obtain ⟨C, hC⟩ : ∃ C, treeV (r1 1) 1 5 = C := ⟨_, rfl⟩
  rw [hC] at htr evC
  have HTR := hid htr
  have sv := fun W => sv24_newv W (fun _ => 0) C
  have z := zero_root
  have HT3 := hid t3f
  have HB34 := hid hB34
  have HBW3 := hid hBw3
  have HEV := hid evC
  have HC := hid hC
  have HLN := hid hLnew
  have HW3 := hid hw3
  clear htr t3f hB34 hBw3 evC hC hLnew s3 t3 r4 hW4 eLB hw3
  go_upto_region 5 with (go_at_call 23; refine HTR.out.mono ?_; rintro e w5 ⟨rfl, hb5⟩)
  obtain ⟨W6, hW6⟩ : ∃ W, w5.alloc (.cells (vs .u8 32 C) 33) = W := ⟨_, rfl⟩
  rw [hW6]
  obtain ⟨y, ey⟩ : ∃ y, w5.heap.size = y := ⟨_, rfl⟩
  have ry : W6.heap[y]? = some (.cells (vs .u8 32 C) 33) := by rw [← hW6, ← ey]; exact heap_new rfl
  have zy : y < W6.heap.size := by rw [← hW6, ← ey]; simp
  have h34 := HB34.out.size
  have h45 := hb5.size
  have hB36 : Below w3.heap.size w3 W6 := by rw [← hW6]; exact (HB34.out.trans (hb5.mono (by omega))).alloc (by omega) _
  have hd6 : Below w3.heap.size w3 W6.drew := hB36.drew
  have hT6 := HT3.out.below hd6
  have hSh6 := HS.out.below (HBW3.out.trans (hd6.mono HW3.out))
  have hro := hT6.root hSh6 hg0 hg1 (by omega) (by omega)
  rw [vs_congr HEV.out] at hro
  have hy0 := HLN.out y (by omega)
  have hld : ∀ W, W.heap[y]? = some (.cells (vs .u8 32 C) 33) → (lv24 ⟨y, 0, none⟩).run Tryd.prog W = .ok (.agg (vs .u8 32 C)) W := fun W h => lv24_run h
  have ryd : W6.drew.heap[y]? = some (.cells (vs .u8 32 C) 33) := ry
  have zyd : y < W6.drew.heap.size := zy
  have HBT := hid hT6.base
  have HRT := hid hT6.room
  have HB36 := hid hd6
  have HLD := hid hld
  have HRO := hid hro
  have HRY := hid ryd
  rw [ey]
  clear hro hld ryd hd6 hT6 hSh6 ry hB36 hb5 hW6 ey sv z bs
  refine wp_region_noPanic ?_
  refine wp_region_held_drew (S := fun W => W.heap[y]? = some (.cells (vs .u8 32 C) 33)) (by kernel_rfl) (HRY.out) (fun hHeld => ?_)
  refine wpAnyH_take (i := 0) (v := ?v1) rfl (by kernel_rfl) (by kernel_rfl) (by kernel_rfl) (fun _ _ _ h => h) (Or.inl ⟨by rfl, ?hy1⟩) hHeld ?rest1
  case hy1 =>
    intro w hSw
    go_simp
    try with_reducible rfl
  try simp only [Act.put, List.setIfInBounds_toArray, List.set_cons_zero, List.set_cons_succ, Array.toArray_toList, List.getElem_toArray, List.getElem_cons_zero, List.getElem_cons_succ]
  refine wpAnyH_take (i := 1) (v := ?v2) rfl (by kernel_rfl) (by kernel_rfl) (by kernel_rfl) (fun _ _ _ h => h) (Or.inl ⟨by rfl, ?hy2⟩) hHeld ?rest2
  case hy2 =>
    intro w hSw
    go_simp
    try with_reducible rfl
  try simp only [Act.put, List.setIfInBounds_toArray, List.set_cons_zero, List.set_cons_succ, Array.toArray_toList, List.getElem_toArray, List.getElem_cons_zero, List.getElem_cons_succ]
  refine wpAnyH_take (i := 2) (v := ?v3) rfl (by kernel_rfl) (by kernel_rfl) (by kernel_rfl) (fun _ _ _ h => h) (Or.inl ⟨by rfl, ?hy3⟩) hHeld ?rest3
  case hy3 =>
    intro w hSw
    go_simp
    try with_reducible rfl
  try simp only [Act.put, List.setIfInBounds_toArray, List.set_cons_zero, List.set_cons_succ, Array.toArray_toList, List.getElem_toArray, List.getElem_cons_zero, List.getElem_cons_succ]
  refine wpAnyH_take (i := 3) (v := ?v4) rfl (by kernel_rfl) (by kernel_rfl) (by kernel_rfl) (fun _ _ _ h => h) (Or.inl ⟨by rfl, ?hy4⟩) hHeld ?rest4
  case hy4 =>
    intro w hSw
    go_simp
    try with_reducible rfl
  try simp only [Act.put, List.setIfInBounds_toArray, List.set_cons_zero, List.set_cons_succ, Array.toArray_toList, List.getElem_toArray, List.getElem_cons_zero, List.getElem_cons_succ]
  refine wpAnyH_take (i := 5) (v := ?v5) rfl (by kernel_rfl) (by kernel_rfl) (by kernel_rfl) (fun _ _ _ h => h) (Or.inl ⟨by rfl, ?hy5⟩) hHeld ?rest5
  case hy5 =>
    intro w hSw
    have ld := HLD.out _ hSw
    go_simp
    try with_reducible rfl
  try simp only [Act.put, List.setIfInBounds_toArray, List.set_cons_zero, List.set_cons_succ, Array.toArray_toList, List.getElem_toArray, List.getElem_cons_zero, List.getElem_cons_succ]
  refine wpAnyH_ready (rs := [4]) (by kernel_rfl) (by simp) ?_
  refine AllReadyH.cons rfl (fun K hK => ?_) AllReadyH.nil
  go_simp
  refine (HRO.out).mono ?_
  rintro e w7 ⟨rfl, LB7, hs7, s7, t7, _⟩
  dsimp only
  have h7 := (s7.1.block y zyd hy0).trans HRY.out
  have HLEN := hid t7.len
  have S7 := hid s7
  clear s7 t7
  refine hK.out _ _ (h7) (fun hHeld => ?_)
  clear hK K
  try simp only [Act.put, List.setIfInBounds_toArray, List.set_cons_zero, List.set_cons_succ, Array.toArray_toList, List.getElem_toArray, List.getElem_cons_zero, List.getElem_cons_succ]
  refine wpAnyH_take (i := 6) rfl (by kernel_rfl) (by kernel_rfl) (by kernel_rfl) (fun _ _ _ h => h) (yields_eqo (by rfl) _ _ _ rfl C C rfl rfl) hHeld ?_
  rw [eqR_self]
  try simp only [Act.put, List.setIfInBounds_toArray, List.set_cons_zero, List.set_cons_succ, Array.toArray_toList, List.getElem_toArray, List.getElem_cons_zero, List.getElem_cons_succ]
  refine wpAnyH_take (i := 7) (v := ?v6) rfl (by kernel_rfl) (by kernel_rfl) (by kernel_rfl) (fun _ _ _ h => h) (Or.inl ⟨by rfl, ?hy6⟩) hHeld ?rest6
  case hy6 =>
    intro w hSw
    go_simp
    try with_reducible rfl
  try simp only [Act.put, List.setIfInBounds_toArray, List.set_cons_zero, List.set_cons_succ, Array.toArray_toList, List.getElem_toArray, List.getElem_cons_zero, List.getElem_cons_succ]
  refine wpAnyH_take (i := 8) (v := ?v7) rfl (by kernel_rfl) (by kernel_rfl) (by kernel_rfl) (fun _ _ _ h => h) (Or.inl ⟨by rfl, ?hy7⟩) hHeld ?rest7
  case hy7 =>
    intro w hSw
    go_simp
    try with_reducible rfl
  try simp only [Act.put, List.setIfInBounds_toArray, List.set_cons_zero, List.set_cons_succ, Array.toArray_toList, List.getElem_toArray, List.getElem_cons_zero, List.getElem_cons_succ]
  refine wpAnyH_take (i := 9) (v := ?v8) rfl (by kernel_rfl) (by kernel_rfl) (by kernel_rfl) (fun _ _ _ h => h) (Or.inl ⟨by rfl, ?hy8⟩) hHeld ?rest8
  case hy8 =>
    intro w hSw
    go_simp
    try with_reducible rfl
  try simp only [Act.put, List.setIfInBounds_toArray, List.set_cons_zero, List.set_cons_succ, Array.toArray_toList, List.getElem_toArray, List.getElem_cons_zero, List.getElem_cons_succ]
  refine wpAnyH_ready (rs := [10]) (by kernel_rfl) (by simp) ?_
  refine AllReadyH.cons rfl (fun K hK => ?_) AllReadyH.nil
  go_simp
  refine (HLEN.out).mono ?_
  rintro e w8 ⟨rfl, hw8⟩
  dsimp only
  obtain rfl := hw8.symm
  refine hK.out _ _ (h7) (fun hHeld => ?_)
  clear hK K
  try simp only [Act.put, List.setIfInBounds_toArray, List.set_cons_zero, List.set_cons_succ, Array.toArray_toList, List.getElem_toArray, List.getElem_cons_zero, List.getElem_cons_succ]
  refine wpAnyH_take (i := 11) (v := ?v9) rfl (by kernel_rfl) (by kernel_rfl) (by kernel_rfl) (fun _ _ _ h => h) (Or.inl ⟨by rfl, ?hy9⟩) hHeld ?rest9
  case hy9 =>
    intro w hSw
    go_simp
    try with_reducible rfl
  try simp only [Act.put, List.setIfInBounds_toArray, List.set_cons_zero, List.set_cons_succ, Array.toArray_toList, List.getElem_toArray, List.getElem_cons_zero, List.getElem_cons_succ]
  refine wpAnyH_take (i := 12) (v := ?v10) rfl (by kernel_rfl) (by kernel_rfl) (by kernel_rfl) (fun _ _ _ h => h) (Or.inl ⟨by rfl, ?hy10⟩) hHeld ?rest10
  case hy10 =>
    intro w hSw
    go_simp
    try with_reducible rfl
  try simp only [Act.put, List.setIfInBounds_toArray, List.set_cons_zero, List.set_cons_succ, Array.toArray_toList, List.getElem_toArray, List.getElem_cons_zero, List.getElem_cons_succ]
  refine wpAnyH_take (i := 13) (v := ?v11) rfl (by kernel_rfl) (by kernel_rfl) (by kernel_rfl) (fun _ _ _ h => h) (Or.inl ⟨by rfl, ?hy11⟩) hHeld ?rest11
  case hy11 =>
    intro w hSw
    go_simp
    try with_reducible rfl
  try simp only [Act.put, List.setIfInBounds_toArray, List.set_cons_zero, List.set_cons_succ, Array.toArray_toList, List.getElem_toArray, List.getElem_cons_zero, List.getElem_cons_succ]
  refine wpAnyH_done (by kernel_rfl) ?_ _
  refine NoPanic.normal ?_
  go_wp2
  go_ret
  exact ⟨rfl, HBW3.out.trans ((HB36.out.mono HW3.out).trans (S7.out.below HBT.out HRT.out))⟩

end Go.Proofs.YtjimdkpppgjokaaDoor
