/-
  SyncAggregate: what Read answers.
-/
import Derived.Test.YtaodonmbanpieabDoorSqA
namespace Go.Proofs.YtaodonmbanpieabDoor
open Go.RowKit
set_option linter.unusedVariables false
set_option linter.unusedSimpArgs false

theorem copy_bits (W : World) (g : Nat) (o x : VSyncAggregate) (a : Addr) (cap dcap : Nat) (t : TypeId) (hg : W.heap[g]? = some (.cells (cel (sSyncAggregate o)) t)) (hx : ∀ j, j < 8 → W.cell? (a.add j) = some (.bool (x.f0 j))) :
    ∀ ty, (Builtin.copy_ #[125, 125] ty #[.slice (some ⟨g, 0, none⟩) 8 dcap, .slice (some a) 8 cap]).run Tryd.prog W = .ok (.int .i64 8) (W.setRow g (cel (sSyncAggregate ⟨x.f0, o.f1⟩))) := by
  intro ty
  have hrun := run_copy_row (P := Tryd.prog) W 125 125 ty 4 g 0 8 dcap a 8 cap (cel (sSyncAggregate o)) t [.bool (x.f0 0), .bool (x.f0 1), .bool (x.f0 2), .bool (x.f0 3), .bool (x.f0 4), .bool (x.f0 5), .bool (x.f0 6), .bool (x.f0 7)] Tryd.underlying125 (by kernel_rfl) hg rfl
    (fun j v hj => by
      have hlt : j < 8 := (List.getElem?_eq_some_iff.1 hj).1
      rw [hx j hlt, ← hj]
      rcases (by omega : j = 0 ∨ j = 1 ∨ j = 2 ∨ j = 3 ∨ j = 4 ∨ j = 5 ∨ j = 6 ∨ j = 7) with rfl | rfl | rfl | rfl | rfl | rfl | rfl | rfl
      all_goals rfl) (by rw [cel_size, slSyncAggregate]; exact Nat.le_of_ble_eq_true rfl) (by intro u hu; simp only [List.mem_cons, List.not_mem_nil, or_false] at hu; rcases hu with rfl | rfl | rfl | rfl | rfl | rfl | rfl | rfl <;> rfl)
  rw [hrun]
  rfl
theorem bys_nat {w : World} {a : Option Addr} {n cap : Nat} {m : Nat → Int} (h : Bys w a n cap m) (hm : ∀ j, 0 ≤ m j ∧ m j < 256) : Bys w a n cap (fun q => (((m q).toNat : Nat) : Int)) := by
  rw [show (fun q => (((m q).toNat : Nat) : Int)) = m from funext fun q => by have := hm q; omega]
  exact h
theorem rv8 (m : Nat → Int) (hm : ∀ j, 0 ≤ m j ∧ m j < 256) (ao : Option Addr) (c : Nat) (w : World) (h : Bys w ao 1 c m) :
    Calls Tryd.prog 70 #[.slice ao 1 c, .int .i64 8] w fun e w' => ∃ b off c', e = .returned (.tuple #[.slice (some ⟨b, off, none⟩) 8 c', .int .i64 0]) ∧ b < w'.heap.size ∧ (∀ j, j < 8 → w'.cell? ⟨b, off + j, none⟩ = some (.bool (Z.tb (fun q => (m q).toNat) j))) ∧ Below w.heap.size w w' := by
  obtain ⟨e1, e2⟩ := Z.rv_ok (m := fun q => (m q).toNat) (len := 1) (n := 8) (by decide) (by decide) (by decide) (Z.frB_false fun i h1 h2 => by have h1' : i < 8 * 1 := h1; have h2' : 8 ≤ i := h2; omega)
  have h1 := Z.readv_any (fun q => (m q).toNat) ao 1 c 8 w (bys_nat h hm) (fun q _ => by have := hm q; show (m q).toNat < 256; omega) (by omega)
  rw [e1, e2] at h1
  refine h1.mono ?_
  rintro e w' ⟨a, c', rfl, hbl, hb⟩
  obtain ⟨b, off, rfl, hlt, _⟩ := Z.bls_at hbl 0 (by decide)
  refine ⟨b, off, c', rfl, hlt, fun j hj => ?_, hb⟩
  obtain ⟨b', off', e', _, h3⟩ := Z.bls_at hbl j hj
  cases e'
  exact h3

attribute [local go_sem ↓] Z.slB_eq

set_option maxRecDepth 20000 in
set_option maxHeartbeats 1000000 in
theorem rrv8 (m : Nat → Int) (hm : ∀ j, 0 ≤ m j ∧ m j < 256) (ao : Option Addr) (c : Nat) (w : World) (h : Bys w ao 1 c m) :
    Calls Tryd.prog 71 #[.slice ao 1 c, .int .i64 8] w fun e w' => ∃ b off c', e = .returned (.tuple #[.slice (some ⟨b, off, none⟩) 8 c', .int .i64 0]) ∧ w.heap.size ≤ b ∧ b < w'.heap.size ∧ (∀ j, j < 8 → w'.cell? ⟨b, off + j, none⟩ = some (.bool (Z.tb (fun q => (m q).toNat) j))) ∧ Below w.heap.size w w' := by
  have ha : Calls Tryd.prog 96 #[.slice ao 1 c] w fun e w' => ∃ b off C, e = .returned (.slice (some ⟨b, off, none⟩) 8 C) ∧ 8 ≤ C ∧ w.heap.size ≤ b ∧ b < w'.heap.size ∧ (∀ j, j < 8 → w'.cell? ⟨b, off + j, none⟩ = some (.bool (Z.tb (fun q => (m q).toNat) j))) ∧ Below w.heap.size w w' := by
    refine (Z.all_any (fun q => (m q).toNat) ao 1 c w (bys_nat h hm) (fun q _ => by have := hm q; show (m q).toNat < 256; omega) (by omega)).mono ?_
    rintro e w' ⟨v, rfl, ho, hb⟩
    obtain ⟨a, C, rfl, hC, _, hbl, hba⟩ := Z.owns_bls ho
    obtain ⟨b, off, rfl, hlt, _⟩ := Z.bls_at hbl 0 (by decide)
    refine ⟨b, off, C, rfl, hC, hba _ rfl, hlt, fun j hj => ?_, hb⟩
    obtain ⟨b', off', e', _, h3⟩ := Z.bls_at hbl j hj
    cases e'
    exact h3
  have HA := hid ha
  clear ha h hm
  go_enter Tryd.func71, Tryd.ntmps71
  go_wp2_with (go_at_call 96; refine HA.out.mono ?_; rintro e w1 ⟨b, off, C, rfl, hC, hba, hlt, hcs, hb⟩; have HCS := hid (And.intro hba (And.intro hlt (And.intro hcs hb))); clear hba hlt hcs hb)
  go_loopw [7] (fun i wr => i = .int .i64 8 ∧ wr = w1) (fun _ _ => 0)
  case atStart => exact ⟨rfl, rfl⟩
  case round =>
    obtain ⟨rfl, rfl⟩ := hrel
    have sl : ∀ W : World, (Z.slB (.slice (some ⟨b, off, none⟩) 8 C) none (some (.int .i64 8))).run Tryd.prog W = .ok (.slice (some ⟨b, off, none⟩) 8 C) W := fun W => Z.slB_run W (some ⟨b, off, none⟩) 8 C 8 hC
    go_wp2
    go_ret2
    exact ⟨b, off, C, rfl, HCS.out⟩

attribute [local go_sem ↓] sv24_eq lv24_eq ix22_eq slr_eq bd27_eq bs22_eq sv8_eq mkI_eq ixI_eq ixP_eq bsP_eq bsI_eq lvSyncAggregate_eq svSyncAggregate_eq bdSyncAggregate_eq

set_option maxRecDepth 20000 in
set_option maxHeartbeats 2000000 in
theorem readSyncAggregate_no (m : Nat → Int) (ao : Option Addr) (len cap : Nat) (w : World) (hb : Bys w ao len cap m) (hm : ∀ j, 0 ≤ m j ∧ m j < 256) (hlc : len ≤ cap) (hcap : cap ≤ 9223372036854775807) (hlen : len ≤ 140737488351232) (hN : ¬ len = 97) :
    Calls Tryd.prog 38 #[.slice ao len cap] w fun e w' => e = .returned (.tuple #[.agg (cel (sSyncAggregate oSyncAggregate)), .int .i64 4]) ∧ Below w.heap.size w w' := by
  have z := zeroSyncAggregate
  obtain ⟨W1, hW1⟩ : ∃ W, w.alloc (.cells (cel (sSyncAggregate oSyncAggregate)) 74) = W := ⟨_, rfl⟩
  obtain ⟨W2, hW2⟩ : ∃ W, W1.alloc (.cells (vs .i64 2 zSyncAggregate) 3) = W := ⟨_, rfl⟩
  have hB1 : Below w.heap.size w W1 := by rw [← hW1]; exact (Below.refl _ _).alloc (Nat.le_refl _) _
  have z1 : W1.heap.size = w.heap.size + 1 := by rw [← hW1]; simp
  have z2 : W2.heap.size = w.heap.size + 2 := by rw [← hW2]; simp [z1]
  have hB2 : Below w.heap.size w W2 := by rw [← hW2]; exact hB1.alloc (by omega) _
  have r1 : W1.heap[w.heap.size]? = some (.cells (cel (sSyncAggregate oSyncAggregate)) 74) := by rw [← hW1]; exact heap_new rfl
  have r2 : W2.heap[w.heap.size]? = some (.cells (cel (sSyncAggregate oSyncAggregate)) 74) := by rw [← hW2]; exact (heap_old (by omega)).trans r1
  have g2 : W2.heap[W1.heap.size]? = some (.cells (vs .i64 2 zSyncAggregate) 3) := by rw [← hW2]; exact heap_new rfl
  have bsi := bsI_SyncAggregate W1
  rw [hW2] at bsi
  have hcut := cut7_no fixSyncAggregate m ao len cap W1.heap.size W2 (hb.below hB2) hm hlen hlc hcap g2 (by omega) hN
  obtain ⟨y, ey⟩ : ∃ y, w.heap.size = y := ⟨_, rfl⟩
  obtain ⟨y1, ey1⟩ : ∃ y, W1.heap.size = y := ⟨_, rfl⟩
  rw [ey1] at bsi hcut
  have hy : y < W2.heap.size := by omega
  rw [ey] at r2
  have HCUT := hid hcut
  have R2 := hid r2
  have HB2 := hid hB2
  have HY := hid hy
  have EY := hid ey
  clear hcut r2 hB2 hy r1 g2 hB1 z1 z2 hlc hcap hb hlen hN
  go_enter Tryd.func38, Tryd.ntmps38
  go_upto_region 2 with (go_at_call 58; refine HCUT.out.mono ?_; rintro e w1 ⟨a1, rfl, hb1⟩)
  clear hW1 hW2 ey ey1 bsi
  have rr := (hb1.block _ HY.out).trans R2.out
  have sv := svSyncAggregate_run rr oSyncAggregate
  have bd := bdSyncAggregate_0
  have RR := hid rr
  have HB1 := hid hb1
  clear rr hb1
  go_wp2
  refine retSyncAggregate _ _ y oSyncAggregate 74 _ rfl rfl rfl rfl (setRow_at RR.out) ⟨rfl, ?_⟩
  have e0 := EY.out
  have e1 := HB2.out.size
  exact below_row (HB2.out.trans (HB1.out.mono (by omega))) (by omega) _

set_option maxRecDepth 20000 in
set_option maxHeartbeats 2000000 in
theorem readSyncAggregate_ok (m : Nat → Int) (ao : Option Addr) (cap : Nat) (w : World) (hb : Bys w ao 97 cap m) (hm : ∀ j, 0 ≤ m j ∧ m j < 256) (hlc : 97 ≤ cap) (hcap : cap ≤ 9223372036854775807) :
    Calls Tryd.prog 38 #[.slice ao 97 cap] w fun e w' => e = .returned (.tuple #[.agg (cel (sSyncAggregate (pSyncAggregate m))), .int .i64 0]) ∧ Below w.heap.size w w' := by
  have z := zeroSyncAggregate
  obtain ⟨W1, hW1⟩ : ∃ W, w.alloc (.cells (cel (sSyncAggregate oSyncAggregate)) 74) = W := ⟨_, rfl⟩
  obtain ⟨W2, hW2⟩ : ∃ W, W1.alloc (.cells (vs .i64 2 zSyncAggregate) 3) = W := ⟨_, rfl⟩
  have hB1 : Below w.heap.size w W1 := by rw [← hW1]; exact (Below.refl _ _).alloc (Nat.le_refl _) _
  have z1 : W1.heap.size = w.heap.size + 1 := by rw [← hW1]; simp
  have z2 : W2.heap.size = w.heap.size + 2 := by rw [← hW2]; simp [z1]
  have hB2 : Below w.heap.size w W2 := by rw [← hW2]; exact hB1.alloc (by omega) _
  have r1 : W1.heap[w.heap.size]? = some (.cells (cel (sSyncAggregate oSyncAggregate)) 74) := by rw [← hW1]; exact heap_new rfl
  have r2 : W2.heap[w.heap.size]? = some (.cells (cel (sSyncAggregate oSyncAggregate)) 74) := by rw [← hW2]; exact (heap_old (by omega)).trans r1
  have g2 : W2.heap[W1.heap.size]? = some (.cells (vs .i64 2 zSyncAggregate) 3) := by rw [← hW2]; exact heap_new rfl
  have bsi := bsI_SyncAggregate W1
  rw [hW2] at bsi
  have hcut := cut7_ok fixSyncAggregate m ao cap W1.heap.size W2 (hb.below hB2) hm (by omega) hlc hcap g2 (by omega) zposSyncAggregate (by omega)
  obtain ⟨y, ey⟩ : ∃ y, w.heap.size = y := ⟨_, rfl⟩
  obtain ⟨y1, ey1⟩ : ∃ y, W1.heap.size = y := ⟨_, rfl⟩
  rw [ey1] at bsi hcut
  have hy : y < W2.heap.size := by omega
  rw [ey] at r2
  have HCUT := hid hcut
  have R2 := hid r2
  have HB2 := hid hB2
  have HY := hid hy
  have EY := hid ey
  clear hcut r2 hB2 hy r1 g2 hB1 z1 z2 hlc hcap hb
  go_enter Tryd.func38, Tryd.ntmps38
  go_upto_region 2 with (go_at_call 58; refine HCUT.out.mono ?_; rintro e wc ⟨gp, o, rfl, hgp, hcu, hbc⟩)
  clear hW1 hW2 ey ey1 bsi
  obtain ⟨b0, o0, c0, l0, q0⟩ := hcu 0 (by omega)
  replace l0 : wc.cell? ⟨gp, o + 0, none⟩ = some (.slice (some ⟨b0, o0, none⟩) 1 c0) := l0
  replace q0 : Bys wc (some ⟨b0, o0, none⟩) 1 c0 (fun q => m (0 + q)) := q0
  obtain ⟨P0, eP0⟩ : ∃ P, o + 0 = P := ⟨_, rfl⟩
  rw [eP0] at l0
  have ix0 : ∀ X : World, (ixP (.slice (some ⟨gp, o, none⟩) 2 2) (.int .i64 0)).run Tryd.prog X = .ok (.pointer (some ⟨gp, P0, none⟩)) X := fun X => by rw [← eP0]; exact ixP_run X gp o 2 2 0 (by omega)
  obtain ⟨b1, o1, c1, l1, q1⟩ := hcu 1 (by omega)
  replace l1 : wc.cell? ⟨gp, o + 1, none⟩ = some (.slice (some ⟨b1, o1, none⟩) 96 c1) := l1
  replace q1 : Bys wc (some ⟨b1, o1, none⟩) 96 c1 (fun q => m (1 + q)) := q1
  obtain ⟨P1, eP1⟩ : ∃ P, o + 1 = P := ⟨_, rfl⟩
  rw [eP1] at l1
  have ix1 : ∀ X : World, (ixP (.slice (some ⟨gp, o, none⟩) 2 2) (.int .i64 1)).run Tryd.prog X = .ok (.pointer (some ⟨gp, P1, none⟩)) X := fun X => by rw [← eP1]; exact ixP_run X gp o 2 2 1 (by omega)
  have q0' : Bys wc (some ⟨b0, o0, none⟩) 1 c0 m := by
    rw [show m = fun q => m (0 + q) from funext fun q => by rw [Nat.zero_add]]
    exact q0
  have hv := rv8 m hm (some ⟨b0, o0, none⟩) c0 wc q0'
  obtain ⟨N0, eN0⟩ : ∃ N, Z.tb (fun q => (m q).toNat) = N := ⟨_, rfl⟩
  rw [eN0] at hv
  have HV := hid hv
  have EN0 := hid eN0
  have HQ1 := hid q1
  have HL1 := hid l1
  have HBC := hid hbc
  have HGPC := hid hgp
  clear hv eN0 q0 q0' q1 hbc hgp hcu eP0 eP1
  go_upto_region 7 with (go_at_call 70; refine HV.out.mono ?_; rintro e w1 ⟨b8, o8, c8, rfl, h8lt, h8, hbv⟩)
  have q1 : Bys w1 (some ⟨b1, o1, none⟩) 96 c1 (fun q => m (1 + q)) := HQ1.out.below hbv
  have l1 : w1.cell? ⟨gp, P1, none⟩ = some (.slice (some ⟨b1, o1, none⟩) 96 c1) := (below_cell hbv HGPC.out).trans HL1.out
  have Q1 := hid q1
  have L1 := hid l1
  have HB1 := hid (HBC.out.trans (hbv.mono HBC.out.size))
  have HGP := hid (Nat.lt_of_lt_of_le HGPC.out hbv.size)
  obtain ⟨g, eg⟩ : ∃ g, w1.heap.size = g := ⟨_, rfl⟩
  obtain ⟨U0, hU0⟩ : ∃ V, w1.alloc (.cells (cel (sSyncAggregate oSyncAggregate)) 74) = V := ⟨_, rfl⟩
  have hBU : Below g w1 U0 := by rw [← hU0, ← eg]; exact (Below.refl _ _).alloc (Nat.le_refl _) _
  have rU0 : U0.heap[g]? = some (.cells (cel (sSyncAggregate oSyncAggregate)) 74) := by rw [← hU0]; exact heap_new eg.symm
  have HCP := hid (copy_bits U0 g oSyncAggregate ⟨N0, fun _ => 0⟩ ⟨b8, o8, none⟩ c8 8 74 rU0 (fun j hj => by
    rw [Addr.add_mid, below_cell hBU (by rw [← eg]; exact h8lt)]
    exact h8 j hj))
  have EG := hid eg
  have RU0 := hid rU0
  have HU0 := hid hBU
  clear rU0 hBU q1 l1 h8lt h8 hbv
  go_upto_region 8 with fail
  clear hU0 eg z
  have cp : (Builtin.copy_ #[125, 125] 3 #[.slice (some ⟨g, 0, none⟩) 8 8, .slice (some ⟨b8, o8, none⟩) 8 c8]).run Tryd.prog U0 = .ok (.int .i64 8) (U0.setRow g (cel (sSyncAggregate ⟨N0, fun _ => 0⟩))) := HCP.out 3
  go_upto_region 9 with fail
  clear cp
  obtain ⟨V0, hV0⟩ : ∃ V, U0.setRow g (cel (sSyncAggregate ⟨N0, fun _ => 0⟩)) = V := ⟨_, rfl⟩
  have RV0 : Hid (V0.heap[g]? = some (.cells (cel (sSyncAggregate ⟨N0, fun _ => 0⟩)) 74)) := by rw [← hV0]; exact setRow_at RU0.out
  have HV0 : Hid (Below g w1 V0) := by rw [← hV0]; exact below_row HU0.out (Nat.le_refl _) _
  rw [hV0]
  clear hV0 HCP
  have hsrc1 : ∀ j, j < 96 → (V0.drew).cell? (Addr.add ⟨b1, o1, none⟩ j) = some (.int .u8 (m (1 + j))) := fun j hj => by
    obtain ⟨b', o', e', _, _, h'⟩ := bys_at (Q1.out.below (w' := V0.drew) (by rw [EG.out]; exact HV0.out.drew)) (by omega)
    cases e'
    rw [Addr.add_mid]
    exact h' j hj
  have HCP0 := hid (copy_seg V0.drew g 8 96 (sSyncAggregate ⟨N0, fun _ => 0⟩) (sSyncAggregate ⟨N0, fun q => m (1 + q)⟩) (fun q => m (1 + q)) ⟨b1, o1, none⟩ c1 96 74 RV0.out (by rw [slSyncAggregate]; omega) hsrc1 (by kernel_rfl))
  clear hsrc1
  refine wp_region_noPanic ?_
  refine wp_region_held_drew (S := fun X => Below g w1 X) (by kernel_rfl) (HV0.out.drew) (fun hHeld => ?_)
  refine wpAnyH_take (i := 0) (v := ?v374) rfl (by kernel_rfl) (by kernel_rfl) (by kernel_rfl) (fun _ _ _ h => h) (Or.inl ⟨by rfl, ?hy374⟩) hHeld ?rest374
  case hy374 =>
    intro w hSw
    go_simp
    try with_reducible rfl
  try simp only [Act.put, List.setIfInBounds_toArray, List.set_cons_zero, List.set_cons_succ, Array.toArray_toList, List.getElem_toArray, List.getElem_cons_zero, List.getElem_cons_succ]
  refine wpAnyH_take (i := 1) (v := ?v375) rfl (by kernel_rfl) (by kernel_rfl) (by kernel_rfl) (fun _ _ _ h => h) (Or.inl ⟨by rfl, ?hy375⟩) hHeld ?rest375
  case hy375 =>
    intro w hSw
    go_simp
    try with_reducible rfl
  try simp only [Act.put, List.setIfInBounds_toArray, List.set_cons_zero, List.set_cons_succ, Array.toArray_toList, List.getElem_toArray, List.getElem_cons_zero, List.getElem_cons_succ]
  refine wpAnyH_take (i := 2) (v := ?v376) rfl (by kernel_rfl) (by kernel_rfl) (by kernel_rfl) (fun _ _ _ h => h) (Or.inl ⟨by rfl, ?hy376⟩) hHeld ?rest376
  case hy376 =>
    intro w hSw
    go_simp
    try with_reducible rfl
  try simp only [Act.put, List.setIfInBounds_toArray, List.set_cons_zero, List.set_cons_succ, Array.toArray_toList, List.getElem_toArray, List.getElem_cons_zero, List.getElem_cons_succ]
  refine wpAnyH_take (i := 3) (v := ?v377) rfl (by kernel_rfl) (by kernel_rfl) (by kernel_rfl) (fun _ _ _ h => h) (Or.inl ⟨by rfl, ?hy377⟩) hHeld ?rest377
  case hy377 =>
    intro w hSw
    go_simp
    try with_reducible rfl
  try simp only [Act.put, List.setIfInBounds_toArray, List.set_cons_zero, List.set_cons_succ, Array.toArray_toList, List.getElem_toArray, List.getElem_cons_zero, List.getElem_cons_succ]
  refine wpAnyH_take (i := 4) (v := ?v378) rfl (by kernel_rfl) (by kernel_rfl) (by kernel_rfl) (fun _ _ _ h => h) (Or.inl ⟨by rfl, ?hy378⟩) hHeld ?rest378
  case hy378 =>
    intro w hSw
    have ld := (below_cell hSw (by rw [← EG.out]; exact HGP.out)).trans L1.out
    go_simp
    try with_reducible rfl
  try simp only [Act.put, List.setIfInBounds_toArray, List.set_cons_zero, List.set_cons_succ, Array.toArray_toList, List.getElem_toArray, List.getElem_cons_zero, List.getElem_cons_succ]
  refine wpAnyH_ready (rs := [5]) (by kernel_rfl) (by simp) ?_
  refine AllReadyH.cons rfl (fun K hK => ?_) AllReadyH.nil
  refine step_copy_is (by rfl) _ _ 31 31 (by rfl) _ _ _ _ (by rfl) (by rfl) HCP0.out ?_
  refine hK.out _ _ (below_row HV0.out.drew (Nat.le_refl _) _) (fun hHeld => ?_)
  clear hK K
  try simp only [Act.put, List.setIfInBounds_toArray, List.set_cons_zero, List.set_cons_succ, Array.toArray_toList, List.getElem_toArray, List.getElem_cons_zero, List.getElem_cons_succ]
  refine wpAnyH_done (by kernel_rfl) ?_ _
  refine NoPanic.normal ?_
  obtain ⟨V1, hV1⟩ : ∃ V, (V0.drew).setRow g (cel (sSyncAggregate ⟨N0, fun q => m (1 + q)⟩)) = V := ⟨_, rfl⟩
  have RV1 : Hid (V1.heap[g]? = some (.cells (cel (sSyncAggregate ⟨N0, fun q => m (1 + q)⟩)) 74)) := by rw [← hV1]; exact setRow_at (w := V0.drew) RV0.out
  have HV1 : Hid (Below g w1 V1) := by rw [← hV1]; exact below_row HV0.out.drew (Nat.le_refl _) _
  rw [hV1]
  clear hV1
  obtain ⟨vv, ev⟩ : ∃ v : VSyncAggregate, ⟨N0, fun q => m (1 + q)⟩ = v := ⟨_, rfl⟩
  have rv := RV1.out
  rw [ev] at rv
  have rr : V1.heap[y]? = some (.cells (cel (sSyncAggregate oSyncAggregate)) 74) := (HV1.out.block _ (by rw [← EG.out]; exact Nat.lt_of_lt_of_le HY.out HB1.out.size)).trans ((HB1.out.block _ HY.out).trans R2.out)
  have sv := svSyncAggregate_run rr vv
  have lv := lvSyncAggregate_mid (x := vv) rv 0 (take_all _) rfl
  have RR := hid rr
  have EV := hid ev
  clear rr rv ev
  go_wp2
  refine retSyncAggregate _ _ y vv 74 _ rfl rfl rfl rfl (setRow_at RR.out) ⟨?_, ?_⟩
  · rw [← EV.out, ← EN0.out]
    rfl
  have e0 := EY.out
  have e1 := HB2.out.size
  have e2 := HB1.out.size
  have e3 := EG.out
  exact below_row (HB2.out.trans ((HB1.out.mono (by omega)).trans (HV1.out.mono (by omega)))) (by omega) _

set_option maxRecDepth 20000 in
set_option maxHeartbeats 2000000 in
theorem rreadSyncAggregate_no (m : Nat → Int) (ao : Option Addr) (len cap : Nat) (w : World) (hb : Bys w ao len cap m) (hm : ∀ j, 0 ≤ m j ∧ m j < 256) (hlc : len ≤ cap) (hcap : cap ≤ 9223372036854775807) (hlen : len ≤ 140737488351232) (hN : ¬ len = 97) :
    Calls Tryd.prog 39 #[.slice ao len cap] w fun e w' => e = .returned (.tuple #[.agg (cel (sSyncAggregate oSyncAggregate)), .int .i64 4]) ∧ Below w.heap.size w w' := by
  have z := zeroSyncAggregate
  obtain ⟨y, ey⟩ : ∃ y, w.heap.size = y := ⟨_, rfl⟩
  obtain ⟨W1, hW1⟩ : ∃ W, w.alloc (.cells (cel (sSyncAggregate oSyncAggregate)) 74) = W := ⟨_, rfl⟩
  obtain ⟨W2, hW2⟩ : ∃ W, W1.alloc (.cells (cel (sSyncAggregate oSyncAggregate)) 74) = W := ⟨_, rfl⟩
  obtain ⟨W3, hW3⟩ : ∃ W, W2.alloc (.cells (vs .i64 2 zSyncAggregate) 3) = W := ⟨_, rfl⟩
  have z1 : W1.heap.size = y + 1 := by rw [← hW1, ← ey]; simp
  have z2 : W2.heap.size = y + 2 := by rw [← hW2]; simp [z1]
  have z3 : W3.heap.size = y + 3 := by rw [← hW3]; simp [z2]
  have hB3 : Below w.heap.size w W3 := by rw [← hW3, ← hW2, ← hW1]; exact (((Below.refl _ _).alloc (Nat.le_refl _) _).alloc (by simp) _).alloc (by simp; omega) _
  have r1 : W3.heap[y]? = some (.cells (cel (sSyncAggregate oSyncAggregate)) 74) := by rw [← hW3]; refine (heap_old (by omega)).trans ?_; rw [← hW2]; refine (heap_old (by omega)).trans ?_; rw [← hW1]; exact heap_new ey.symm
  have r2 : W3.heap[y + 1]? = some (.cells (cel (sSyncAggregate oSyncAggregate)) 74) := by rw [← hW3]; refine (heap_old (by omega)).trans ?_; rw [← hW2]; exact heap_new z1.symm
  have g3 : W3.heap[y + 2]? = some (.cells (vs .i64 2 zSyncAggregate) 3) := by rw [← hW3]; exact heap_new z2.symm
  have bsi := bsI_SyncAggregate W2
  rw [hW3, z2] at bsi
  have hcut := rcut7_no fixSyncAggregate ao len cap (y + 2) W3 hlen g3 hN
  obtain ⟨g, eg⟩ : ∃ g, y + 1 = g := ⟨_, rfl⟩
  obtain ⟨u, eu⟩ : ∃ u, y + 2 = u := ⟨_, rfl⟩
  rw [eu] at bsi hcut
  rw [eg] at r2
  have HCUT := hid hcut
  have R1 := hid r1
  have R2 := hid r2
  have HB3 := hid hB3
  have EY := hid ey
  have EG := hid eg
  have Z3 := hid z3
  clear hcut r1 r2 hB3 g3 z3 hlc hcap hb hlen hN
  go_enter Tryd.func39, Tryd.ntmps39
  go_upto_region 3 with (go_at_call 60; refine HCUT.out.mono ?_; rintro e w1 ⟨a1, c1, rfl, hb1⟩)
  clear hW1 hW2 hW3 ey eg eu bsi z1 z2 z
  have z3 := Z3.out
  have e0 := EG.out
  have rr := (hb1.block y (by omega)).trans R1.out
  have rx := (hb1.block g (by omega)).trans R2.out
  have sv := svSyncAggregate_run rr oSyncAggregate
  have lv := lvSyncAggregate_mid (x := oSyncAggregate) rx 0 (take_all _) rfl
  have RR := hid rr
  have HB1 := hid hb1
  clear rr hb1 rx z3 e0
  go_wp2
  refine retSyncAggregate _ _ y oSyncAggregate 74 _ rfl rfl rfl rfl (setRow_at RR.out) ⟨rfl, ?_⟩
  have e0 := EY.out
  have e1 := HB3.out.size
  exact below_row (HB3.out.trans (HB1.out.mono (by omega))) (by omega) _

set_option maxRecDepth 20000 in
set_option maxHeartbeats 2000000 in
theorem rreadSyncAggregate_ok (m : Nat → Int) (ao : Option Addr) (cap : Nat) (w : World) (hb : Bys w ao 97 cap m) (hm : ∀ j, 0 ≤ m j ∧ m j < 256) (hlc : 97 ≤ cap) (hcap : cap ≤ 9223372036854775807) :
    Calls Tryd.prog 39 #[.slice ao 97 cap] w fun e w' => e = .returned (.tuple #[.agg (cel (sSyncAggregate (pSyncAggregate m))), .int .i64 0]) ∧ Below w.heap.size w w' := by
  have z := zeroSyncAggregate
  obtain ⟨y, ey⟩ : ∃ y, w.heap.size = y := ⟨_, rfl⟩
  obtain ⟨W1, hW1⟩ : ∃ W, w.alloc (.cells (cel (sSyncAggregate oSyncAggregate)) 74) = W := ⟨_, rfl⟩
  obtain ⟨W2, hW2⟩ : ∃ W, W1.alloc (.cells (cel (sSyncAggregate oSyncAggregate)) 74) = W := ⟨_, rfl⟩
  obtain ⟨W3, hW3⟩ : ∃ W, W2.alloc (.cells (vs .i64 2 zSyncAggregate) 3) = W := ⟨_, rfl⟩
  have z1 : W1.heap.size = y + 1 := by rw [← hW1, ← ey]; simp
  have z2 : W2.heap.size = y + 2 := by rw [← hW2]; simp [z1]
  have z3 : W3.heap.size = y + 3 := by rw [← hW3]; simp [z2]
  have hB3 : Below w.heap.size w W3 := by rw [← hW3, ← hW2, ← hW1]; exact (((Below.refl _ _).alloc (Nat.le_refl _) _).alloc (by simp) _).alloc (by simp; omega) _
  have r1 : W3.heap[y]? = some (.cells (cel (sSyncAggregate oSyncAggregate)) 74) := by rw [← hW3]; refine (heap_old (by omega)).trans ?_; rw [← hW2]; refine (heap_old (by omega)).trans ?_; rw [← hW1]; exact heap_new ey.symm
  have r2 : W3.heap[y + 1]? = some (.cells (cel (sSyncAggregate oSyncAggregate)) 74) := by rw [← hW3]; refine (heap_old (by omega)).trans ?_; rw [← hW2]; exact heap_new z1.symm
  have g3 : W3.heap[y + 2]? = some (.cells (vs .i64 2 zSyncAggregate) 3) := by rw [← hW3]; exact heap_new z2.symm
  have bsi := bsI_SyncAggregate W2
  rw [hW3, z2] at bsi
  have hcut := rcut7_ok fixSyncAggregate m ao cap (y + 2) W3 (hb.below hB3) hm (by omega) hlc hcap g3 (by omega) zposSyncAggregate (by omega)
  obtain ⟨g, eg⟩ : ∃ g, y + 1 = g := ⟨_, rfl⟩
  obtain ⟨u, eu⟩ : ∃ u, y + 2 = u := ⟨_, rfl⟩
  rw [eu] at bsi hcut
  rw [eg] at r2
  have HCUT := hid hcut
  have R1 := hid r1
  have R2 := hid r2
  have HB3 := hid hB3
  have EY := hid ey
  have EG := hid eg
  have Z3 := hid z3
  clear hcut r1 r2 hB3 g3 z3 hlc hcap hb
  go_enter Tryd.func39, Tryd.ntmps39
  go_upto_region 3 with (go_at_call 60; refine HCUT.out.mono ?_; rintro e wc ⟨gp, o, cp, rfl, hgp, hcu, hb1⟩)
  clear hW1 hW2 hW3 ey eg eu bsi z1 z2 z
  have z3 := Z3.out
  have e0 := EG.out
  have hgw : g < wc.heap.size := by have := hb1.size; omega
  have rx : wc.heap[g]? = some (.cells (cel (sSyncAggregate oSyncAggregate)) 74) := (hb1.block g (by omega)).trans R2.out
  obtain ⟨b0, o0, c0, l0, q0, f0⟩ := hcu 0 (by omega)
  replace l0 : wc.cell? ⟨gp, o + 0, none⟩ = some (.slice (some ⟨b0, o0, none⟩) 1 c0) := l0
  replace q0 : Bys wc (some ⟨b0, o0, none⟩) 1 c0 (fun q => m (0 + q)) := q0
  obtain ⟨P0, eP0⟩ : ∃ P, o + 0 = P := ⟨_, rfl⟩
  rw [eP0] at l0
  have ix0 : ∀ X : World, (ixP (.slice (some ⟨gp, o, none⟩) 2 cp) (.int .i64 0)).run Tryd.prog X = .ok (.pointer (some ⟨gp, P0, none⟩)) X := fun X => by rw [← eP0]; exact ixP_run X gp o 2 cp 0 (by omega)
  obtain ⟨b1, o1, c1, l1, q1, f1⟩ := hcu 1 (by omega)
  replace l1 : wc.cell? ⟨gp, o + 1, none⟩ = some (.slice (some ⟨b1, o1, none⟩) 96 c1) := l1
  replace q1 : Bys wc (some ⟨b1, o1, none⟩) 96 c1 (fun q => m (1 + q)) := q1
  obtain ⟨P1, eP1⟩ : ∃ P, o + 1 = P := ⟨_, rfl⟩
  rw [eP1] at l1
  have ix1 : ∀ X : World, (ixP (.slice (some ⟨gp, o, none⟩) 2 cp) (.int .i64 1)).run Tryd.prog X = .ok (.pointer (some ⟨gp, P1, none⟩)) X := fun X => by rw [← eP1]; exact ixP_run X gp o 2 cp 1 (by omega)
  have hne : gp ≠ g := cel_no rx l1
  have nb1 : b1 ≠ g := by omega
  have q0' : Bys wc (some ⟨b0, o0, none⟩) 1 c0 m := by
    rw [show m = fun q => m (0 + q) from funext fun q => by rw [Nat.zero_add]]
    exact q0
  have hv := rrv8 m hm (some ⟨b0, o0, none⟩) c0 wc q0'
  obtain ⟨N0, eN0⟩ : ∃ N, Z.tb (fun q => (m q).toNat) = N := ⟨_, rfl⟩
  rw [eN0] at hv
  have HV := hid hv
  have EN0 := hid eN0
  have HQ1c := hid q1
  have HL1c := hid l1
  have HBC := hid hb1
  have HGPC := hid hgp
  have HNE := hid (And.intro hne nb1)
  have RX := hid rx
  have HGW := hid hgw
  clear hv eN0 q0 q0' q1 hb1 hgp hcu eP0 eP1 f0 f1 hne nb1 rx hgw z3 e0
  go_upto_region 8 with (go_at_call 71; refine HV.out.mono ?_; rintro e w1 ⟨b8, o8, c8, rfl, h8ge, h8lt, h8, hbv⟩)
  have HQ1 : Hid (∀ X, Kept g w1 X → Bys X (some ⟨b1, o1, none⟩) 96 c1 (fun q => m (1 + q))) := fun X h => by
    obtain ⟨b', o', e', h1, h2, h3⟩ := bys_at (HQ1c.out.below hbv) (by omega)
    cases e'
    exact .inr (.inr ⟨_, _, rfl, h2, bys_cap HQ1c.out (by omega), Nat.lt_of_lt_of_le h1 h.size, fun j hj => (h.cell h1 HNE.out.2).trans (h3 j hj)⟩)
  have HL1 : Hid (∀ X, Kept g w1 X → X.cell? ⟨gp, P1, none⟩ = some (.slice (some ⟨b1, o1, none⟩) 96 c1)) := fun X h => (h.cell (Nat.lt_of_lt_of_le HGPC.out hbv.size) HNE.out.1).trans ((below_cell hbv HGPC.out).trans HL1c.out)
  have H8 : Hid (∀ X, Kept g w1 X → ∀ j, j < 8 → X.cell? ⟨b8, o8 + j, none⟩ = some (.bool (N0 j))) := fun X h j hj => (h.cell h8lt (by have := HGW.out; omega)).trans (h8 j hj)
  have RV0 : Hid (w1.heap[g]? = some (.cells (cel (sSyncAggregate ⟨fun q => if q < 0 then N0 q else false, fun _ => 0⟩)) 74)) := (hbv.block g HGW.out).trans RX.out
  have HB1 := hid (HBC.out.trans (hbv.mono HBC.out.size))
  clear h8ge h8lt h8 hbv
  go_upto_region 9 with fail
  go_loopw [9] (fun i wr => ∃ k : Nat, k ≤ 8 ∧ i = .int .i64 k ∧ Kept g w1 wr ∧ wr.heap[g]? = some (.cells (cel (sSyncAggregate ⟨fun q => if q < k then N0 q else false, fun _ => 0⟩)) 74)) (fun i _ => 8 - (intOf i).toNat)
  case atStart => exact ⟨0, by omega, rfl, Kept.refl _ _, RV0.out⟩
  case round =>
    obtain ⟨k, hk, rfl, hkp, rn⟩ := hrel
    by_cases hlt : k < 8
    · have bq : decide (k < 8) = true := by simp; omega
      have k1 : (k : Int) < 8 := by omega
      have k2 : (0 : Int) ≤ (k : Int) := by omega
      obtain ⟨u, cs⟩ : ∃ u, wr.cell? ⟨g, k, none⟩ = some (.bool u) := by
        rw [row_cell rn]
        rcases (by omega : k = 0 ∨ k = 1 ∨ k = 2 ∨ k = 3 ∨ k = 4 ∨ k = 5 ∨ k = 6 ∨ k = 7) with rfl | rfl | rfl | rfl | rfl | rfl | rfl | rfl
        all_goals exact ⟨_, rfl⟩
      have fs := row_frozen rn k
      have lc := H8.out _ hkp k hlt
      have RN := hid rn
      have HK := hid hkp
      obtain ⟨M, eM⟩ : ∃ M, N0 k = M := ⟨_, rfl⟩
      rw [eM] at lc
      have EM := hid eM
      clear rn hkp eM
      go_wp2
      go_roundw
      case rel =>
        refine ⟨k + 1, by omega, by go_num, HK.out.setCell _ _, (row_set RN.out _ _).trans (congrArg (fun c => some (Obj.cells c 74)) ?_)⟩
        rw [← EM.out]
        rcases (by omega : k = 0 ∨ k = 1 ∨ k = 2 ∨ k = 3 ∨ k = 4 ∨ k = 5 ∨ k = 6 ∨ k = 7) with rfl | rfl | rfl | rfl | rfl | rfl | rfl | rfl
        all_goals rfl
      case measure => simp [intOf]; omega
    · obtain rfl : k = 8 := by omega
      have bq : decide (8 < 8) = false := by decide
      have RV0' : Hid (wr.heap[g]? = some (.cells (cel (sSyncAggregate ⟨N0, fun q => if q < 0 then m (1 + q) else 0⟩)) 74)) := rn
      have KV0 := hid hkp
      clear rn hkp bq hk hlt RV0
      obtain ⟨V1, hV⟩ : ∃ V, wr = V := ⟨_, rfl⟩
      subst hV
      go_upto_region 13 with fail
      go_loopw [10] (fun i wr => ∃ k : Nat, k ≤ 96 ∧ i = .int .i64 k ∧ Kept g w1 wr ∧ wr.heap[g]? = some (.cells (cel (sSyncAggregate ⟨N0, fun q => if q < k then m (1 + q) else 0⟩)) 74)) (fun i _ => 96 - (intOf i).toNat)
      case atStart => exact ⟨0, by omega, rfl, KV0.out, RV0'.out⟩
      case round =>
        obtain ⟨k, hk, rfl, hkp, rn⟩ := hrel
        by_cases hlt : k < 96
        · have bq : decide (k < 96) = true := by simp; omega
          have k1 : (k : Int) < 96 := by omega
          have k2 : (0 : Int) ≤ (k : Int) := by omega
          have cs : wr.cell? ⟨g, 8 + k, none⟩ = some (.int .u8 (if k < k then m (1 + k) else 0)) := (row_cell rn _).trans (cel_at (sSyncAggregate ⟨N0, fun q => if q < k then m (1 + q) else 0⟩) 8 k (Seg.by 96 (fun q => if q < k then m (1 + q) else 0)) rfl hlt)
          have fs := row_frozen rn (8 + k)
          have ld := HL1.out _ hkp
          have lc : wr.cell? ⟨b1, o1 + k, none⟩ = some (.int .u8 (m (1 + k))) := by
            obtain ⟨b', o', e', _, _, h3⟩ := bys_at (HQ1.out _ hkp) (by omega)
            cases e'
            exact h3 k hlt
          have RN := hid rn
          have HK := hid hkp
          obtain ⟨M, eM⟩ : ∃ M, m (1 + k) = M := ⟨_, rfl⟩
          rw [eM] at lc
          have EM := hid eM
          clear rn hkp eM
          go_wp2
          go_roundw
          case rel =>
            refine ⟨k + 1, by omega, by go_num, HK.out.setCell _ _, (row_set RN.out _ _).trans (congrArg (fun c => some (Obj.cells c 74)) ?_)⟩
            refine Eq.trans ?_ ((cel_set (l := sSyncAggregate ⟨N0, fun q => if q < k then m (1 + q) else 0⟩) 8 96 k (fun q => if q < k then m (1 + q) else 0) M rfl hlt).trans ?_)
            · rfl
            · rw [← EM.out, up_step]
              rfl
          case measure => simp [intOf]; omega
        · obtain rfl : k = 96 := by omega
          have bq : decide (96 < 96) = false := by decide
          obtain ⟨vv, ev⟩ : ∃ v : VSyncAggregate, ⟨N0, fun q => m (1 + q)⟩ = v := ⟨_, rfl⟩
          have rv : wr.heap[g]? = some (.cells (cel (sSyncAggregate vv)) 74) := by
            rw [← ev]
            exact rn.trans (congrArg (fun c => some (Obj.cells c 74)) (by kernel_rfl))
          have z3 := Z3.out
          have e0 := EG.out
          have e2 := HB1.out.size
          have rr : wr.heap[y]? = some (.cells (cel (sSyncAggregate oSyncAggregate)) 74) := (hkp.block y (by omega) (by omega)).trans ((HB1.out.block y (by omega)).trans R1.out)
          have sv := svSyncAggregate_run rr vv
          have lv := lvSyncAggregate_mid (x := vv) rv 0 (take_all _) rfl
          have RR := hid rr
          have EV := hid ev
          have HKP := hid hkp
          clear rr rv ev z3 e0 e2 rn hkp
          go_wp2
          refine retSyncAggregate _ _ y vv 74 _ rfl rfl rfl rfl (setRow_at RR.out) ⟨?_, ?_⟩
          · rw [← EV.out, ← EN0.out]
            rfl
          have e0 := EY.out
          have e1 := HB3.out.size
          have e2 := HB1.out.size
          have e3 := EG.out
          have z3 := Z3.out
          exact below_row (HB3.out.trans ((HB1.out.mono (by omega)).trans (HKP.out.below (by omega) (by omega)))) (by omega) _

end Go.Proofs.YtaodonmbanpieabDoor
