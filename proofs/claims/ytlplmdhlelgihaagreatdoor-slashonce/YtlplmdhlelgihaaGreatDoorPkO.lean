/-
  The sum of a seed and a number.
-/

import Derived.Test.YtlplmdhlelgihaaGreatDoorPkB
import Derived.Test.YtlplmdhlelgihaaGreatDoorLkR
namespace Go.Proofs.YtlplmdhlelgihaaGreatDoor

open Go.RowKit

set_option linter.unusedVariables false

set_option linter.unusedSimpArgs false

set_option maxRecDepth 20000

/-- Bytes behind a row that is full. -/
theorem ap_seed8 (W : World) (b y cp : Nat) (s c : Nat → Int) (m : Nat → Int) (k : Nat) (hb : ∀ j, j < 32 → W.cell? ⟨b, j, none⟩ = some (.int .u8 (s j))) (hl : b < W.heap.size) (hy : ∀ j, j < k → W.cell? ⟨y, j, none⟩ = some (.int .u8 (c j))) (h0 : 0 < k) (hk : k ≤ 64) (hm1 : ∀ j, j < 32 → m j = s j) (hm2 : ∀ j, j < k → m (32 + j) = c j) (ty : TypeId) :
    ∃ g C w', (ap22 ty (.slice (some ⟨b, 0, none⟩) 32 32) (.slice (some ⟨y, 0, none⟩) k cp)).run Tryz.prog W = .ok (.slice (some ⟨g, 0, none⟩) (32 + k) C) w' ∧ w'.ownsRow W.heap.size 5 1 (.slice (some ⟨g, 0, none⟩) (32 + k) C) (32 + k) (bl m (32 + k)) ∧ Below W.heap.size W w' := by
  obtain ⟨i, hi, hz0, hz1, hz2⟩ := info_parts info8
  obtain ⟨v', w', hr, ho, hg⟩ := run_append_arg_grows (P := Tryz.prog) W 39 ty 5 i (.int .u8 0) 1 1 Tryz.underlying39 hi hz0 hz1 hz2 rfl (by decide) ⟨b, 0, none⟩ 32 32 (bl s 32) (by rw [bl_len])
    (fun j u hj => by
      obtain ⟨h1, rfl⟩ := bl_get s 32 j u hj
      rw [addr_add, Nat.zero_add]
      exact hb j h1) ⟨y, 0, none⟩ k cp (bl c k) (by rw [bl_len, Nat.mul_one]) (fun j u hj => by
      obtain ⟨h1, rfl⟩ := bl_get c k j u hj
      rw [addr_add, Nat.zero_add]
      exact hy j h1) (by omega) (by unfold maxLen; omega) (by omega)
  have e : bl s 32 ++ bl c k = bl m (32 + k) := by
    rw [bl_congr (m := s) (m' := m) (fun j hj => (hm1 j hj).symm)]
    exact bl_add' m c 32 k hm2
  rw [e] at ho
  obtain ⟨g, C, rfl⟩ := owns_pos ho (by omega)
  exact ⟨g, C, w', hr, ho, ⟨hg.os, hg.tape, hg.output, hg.size, fun k hk => hg.block k hk (fun e => by cases e)⟩⟩

attribute [local go_sem ↓] sv24_eq lv24_eq sv8_eq

set_option maxHeartbeats 1000000 in
theorem sumof_any (s : Nat → Int) (q : Int) (w : World) (hs : ∀ j, j < 32 → 0 ≤ s j ∧ s j < 256) (q0 : 0 ≤ q) (q1 : q < 18446744073709551616) (hS : Sh w) :
    Calls Tryz.prog 52 #[.agg (vs .u8 32 s), .int .u64 q] w fun e' w' => e' = .returned (.agg (vs .u8 32 (shaV KW HW (sd8 s q) 40))) ∧ Below w.heap.size w w' := by
  obtain ⟨W0, hW0⟩ : ∃ W, (w.alloc (.cells (vs .u8 32 s) 24)).alloc (.cells (vs .u8 32 fun _ => 0) 24) = W := ⟨_, rfl⟩
  have r0 : W0.heap[w.heap.size]? = some (.cells (vs .u8 32 s) 24) := by rw [← hW0]; exact (heap_old (by simp)).trans (heap_new rfl)
  have r1 : W0.heap[w.heap.size + 1]? = some (.cells (vs .u8 32 fun _ => 0) 24) := by rw [← hW0]; exact heap_new (by simp)
  have hB0 : Below w.heap.size w W0 := by rw [← hW0]; exact ((Below.refl _ _).alloc (Nat.le_refl _) _).alloc (by simp) _
  have z0 : w.heap.size + 1 < W0.heap.size := some_ltK r1
  have hk1 := fun W : World => wbytes_any q W q0 (by omega)
  obtain ⟨X, hX⟩ : ∃ X, shaV KW HW (sd8 s q) 40 = X := ⟨_, rfl⟩
  have hsum : ∀ (W : World) g C B, Below w.heap.size w W → W.ownsRow B 5 1 (.slice (some ⟨g, 0, none⟩) 40 C) 40 (bl (sd8 s q) 40) → Calls Tryz.prog 74 #[.slice (some ⟨g, 0, none⟩) 40 C] W fun e w' => e = .returned (.agg (vs .u8 32 X)) ∧ Below W.heap.size W w' := fun W g C B h1 ho => by
    rw [← hX]
    obtain ⟨q1, q2, q3, q4, q5⟩ := own_cells ho
    exact sum_any KW HW (sd8 s q) 40 C g 0 W (hS.below h1).1 (hS.below h1).2 HW_bd (fun j hj => by rw [Nat.zero_add]; exact q5 j hj) (fun j hj => sd8_bd hs _ _) q2 (by omega) q3 q4
  rw [hX]
  have v8 := fun W => sv8_newv W (fun _ => 0) (nmB q)
  have z8 := zero_8
  have zr := zero_root
  have hsd1 : ∀ j, j < 32 → sd8 s q j = s j := fun j hj => by unfold sd8; rw [if_pos hj]
  have hsd2 : ∀ j, j < 8 → sd8 s q (32 + j) = nmB q j := fun j hj => by unfold sd8; rw [if_neg (by omega), show 32 + j - 32 = j by omega]
  have HK1 := hid hk1
  have HSU := hid hsum
  have HB0 := hid hB0
  have HW0 := hid hW0
  have HR := hid (And.intro r0 r1)
  have HSD := hid (And.intro hsd1 hsd2)
  clear hk1 hsum hB0 hW0 r0 r1 hS hs hX q0 q1 hsd1 hsd2
  go_enter Tryz.func52, Tryz.ntmps52
  go_upto_region 1 with fail
  rw [HW0.out]
  clear HW0
  go_upto_region 2 with (go_at_call 73; refine (HK1.out W0).mono ?_; rintro e' w1 ⟨rfl, hb1⟩)
  obtain ⟨W2, hW2⟩ : ∃ W, w1.alloc (.cells (vs .u8 8 (nmB q)) 127) = W := ⟨_, rfl⟩
  rw [hW2]
  have hz1 := hb1.size
  have rk : W2.heap[w1.heap.size]? = some (.cells (vs .u8 8 (nmB q)) 127) := by rw [← hW2]; exact heap_new rfl
  have hD2 : Below W0.heap.size W0 W2 := by rw [← hW2]; exact hb1.alloc hz1 _
  obtain ⟨y1, ey1⟩ : ∃ y, w1.heap.size = y := ⟨_, rfl⟩
  rw [ey1] at rk ⊢
  have hap : ∀ (W : World), Below W2.heap.size W2 W → ∀ ty : TypeId, ∃ g C w', (ap22 ty (.slice (some ⟨w.heap.size, 0, none⟩) 32 32) (.slice (some ⟨y1, 0, none⟩) 8 8)).run Tryz.prog W = .ok (.slice (some ⟨g, 0, none⟩) 40 C) w' ∧ w'.ownsRow W2.heap.size 5 1 (.slice (some ⟨g, 0, none⟩) 40 C) 40 (bl (sd8 s q) 40) ∧ Below W2.heap.size W2 w' := fun W hW ty => by
    have y2 := some_ltK rk
    have l0 := hD2.size
    obtain ⟨g, C, w', h1, h2, h3⟩ := ap_seed8 W w.heap.size y1 8 s (nmB q) (sd8 s q) 8 (fun j hj => row_int ((hW.block _ (by omega)).trans ((hD2.block _ (by omega)).trans HR.out.1)) j hj) (by have := hW.size; omega) (fun j hj => row_int ((hW.block _ y2).trans rk) j hj) (by omega) (by omega) HSD.out.1 HSD.out.2 ty
    exact ⟨g, C, w', h1, h2.mono hW.size, hW.trans (h3.mono hW.size)⟩
  have hdr : Below W2.heap.size W2 W2.drew := (Below.refl _ _).drew
  have hsum : ∀ (W : World) g C B, Below W2.heap.size W2 W → W.ownsRow B 5 1 (.slice (some ⟨g, 0, none⟩) 40 C) 40 (bl (sd8 s q) 40) → Calls Tryz.prog 74 #[.slice (some ⟨g, 0, none⟩) 40 C] W fun e w' => e = .returned (.agg (vs .u8 32 X)) ∧ Below W.heap.size W w' := fun W g C B h1 ho => HSU.out W g C B (HB0.out.trans ((hD2.trans (h1.mono hD2.size)).mono HB0.out.size)) ho
  have HAP := hid hap
  have HDR := hid hdr
  have HSUM := hid hsum
  have HR1 := hid ((hD2.block _ z0).trans HR.out.2)
  have HBE := hid (HB0.out.trans (hD2.mono HB0.out.size))
  clear hap hdr hsum hD2 hW2 rk hb1 hz1 ey1 HR HSD HSU HK1
  refine wp_region_noPanic ?_
  refine wp_region_held_drew (S := fun _ => True) (by kernel_rfl) (trivial) (fun hHeld => ?_)
  refine tk 0 (v := ?v1) ?y1 hHeld ?r1
  case y1 => intro w hSw; go_simp; try with_reducible rfl
  refine tk 1 (v := ?v2) ?y2 hHeld ?r2
  case y2 => intro w hSw; go_simp; try with_reducible rfl
  try simp only [Act.put, List.setIfInBounds_toArray, List.set_cons_zero, List.set_cons_succ, Array.toArray_toList, List.getElem_toArray, List.getElem_cons_zero, List.getElem_cons_succ]
  refine wpAnyH_ready (rs := [2]) (by kernel_rfl) (by simp) ?_
  refine AllReadyH.cons rfl (fun K hK => ?_) AllReadyH.nil
  obtain ⟨g1, C1, x1, hap1, ho1, hc1⟩ := HAP.out _ HDR.out 39
  refine wp_append_is _ _ rfl _ _ _ _ rfl rfl hap1 ?_
  refine hK.out _ _ (trivial) (fun hHeld => ?_)
  clear hK K
  try simp only [Act.put, List.setIfInBounds_toArray, List.set_cons_zero, List.set_cons_succ, Array.toArray_toList, List.getElem_toArray, List.getElem_cons_zero, List.getElem_cons_succ]
  refine wpAnyH_ready (rs := [3]) (by kernel_rfl) (by simp) ?_
  refine AllReadyH.cons rfl (fun K hK => ?_) AllReadyH.nil
  go_simp
  refine (HSUM.out x1 g1 C1 _ hc1 ho1).mono ?_
  rintro e' x2 ⟨rfl, hc2⟩
  dsimp only
  replace hc2 : Below W2.heap.size W2 x2 := hc1.trans (hc2.mono hc1.size)
  refine hK.out _ _ (trivial) (fun hHeld => ?_)
  clear hK K
  try simp only [Act.put, List.setIfInBounds_toArray, List.set_cons_zero, List.set_cons_succ, Array.toArray_toList, List.getElem_toArray, List.getElem_cons_zero, List.getElem_cons_succ]
  refine wpAnyH_ready (rs := [4]) (by kernel_rfl) (by simp) ?_
  refine AllReadyH.cons rfl (fun K hK => ?_) AllReadyH.nil
  have r4 := (hc2.block _ (some_ltK HR1.out)).trans HR1.out
  have v3 := sv24_run r4 X
  go_simp
  refine hK.out _ _ (trivial) (fun hHeld => ?_)
  clear hK K
  try simp only [Act.put, List.setIfInBounds_toArray, List.set_cons_zero, List.set_cons_succ, Array.toArray_toList, List.getElem_toArray, List.getElem_cons_zero, List.getElem_cons_succ]
  refine wpAnyH_done (by kernel_rfl) ?_ _
  refine NoPanic.normal ?_
  go_wp2
  have hzz := HBE.out.size
  refine ret24 4 (w.heap.size + 1) X 24 rfl rfl rfl (setRow_at r4) ⟨rfl, ?_⟩
  exact below_row (HBE.out.trans (hc2.mono hzz)) (by omega) _

end Go.Proofs.YtlplmdhlelgihaaGreatDoor
