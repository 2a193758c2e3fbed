/-
  What Root answers.
-/
import Derived.Test.YtaodonmbanpieaaDoorCoA
import Derived.Test.YtaodonmbanpieaaDoorCoB
namespace Go.Proofs.YtaodonmbanpieaaDoor
open Go.RowKit
set_option linter.unusedVariables false
set_option linter.unusedSimpArgs false

attribute [local go_sem ↓] sv24_eq lv24_eq ix22_eq slr_eq bd27_eq bs22_eq sv8_eq mkI_eq ixI_eq ixP_eq bsP_eq lvCheckpoint_eq lvHeader_eq lvExit_eq

set_option maxRecDepth 20000 in
set_option maxHeartbeats 2000000 in
theorem rootValidator_any (x : VValidator) (w : World) (hx : OkValidator x) (hS : Sh w) :
    Calls Tryd.prog 23 #[.agg (cel (sValidator x))] w fun e w' => e = .returned (.agg (vs .u8 32 (hValidator x))) ∧ Below w.heap.size w w' := by
  have z := zero_root
  obtain ⟨W1, hW1⟩ : ∃ W, w.alloc (.cells (cel (sValidator x)) 53) = W := ⟨_, rfl⟩
  obtain ⟨W0, hW0⟩ : ∃ W, W1.alloc (.cells (vs .u8 32 fun _ => 0) 31) = W := ⟨_, rfl⟩
  have hB1 : Below w.heap.size w W1 := by rw [← hW1]; exact (Below.refl _ _).alloc (Nat.le_refl _) _
  have z1 : W1.heap.size = w.heap.size + 1 := by rw [← hW1]; simp
  have z0 : W0.heap.size = w.heap.size + 2 := by rw [← hW0]; simp [z1]
  have hB0 : Below w.heap.size w W0 := by rw [← hW0]; exact hB1.alloc (by omega) _
  have r1 : W1.heap[w.heap.size]? = some (.cells (cel (sValidator x)) 53) := by rw [← hW1]; exact heap_new rfl
  have r0 : W0.heap[w.heap.size]? = some (.cells (cel (sValidator x)) 53) := by rw [← hW0]; exact (heap_old (by omega)).trans r1
  have rr : W0.heap[w.heap.size + 1]? = some (.cells (vs .u8 32 fun _ => 0) 31) := by rw [← hW0]; exact heap_new (by omega)
  obtain ⟨y, ey⟩ : ∃ y, w.heap.size = y := ⟨_, rfl⟩
  have hy1 : y + 1 ≤ W0.heap.size := by omega
  have hry : ∀ X, Below (y + 1) W0 X → X.heap[y]? = some (.cells (cel (sValidator x)) 53) := fun X h => by rw [← ey]; exact (h.block _ (by omega)).trans r0
  have hrr : ∀ X, Below W0.heap.size W0 X → X.heap[y + 1]? = some (.cells (vs .u8 32 fun _ => 0) 31) := fun X h => by rw [← ey]; exact (h.block _ (by omega)).trans rr
  have hSh : ∀ X, Below W0.heap.size W0 X → Sh X := fun X h => (hS.below hB0).below h
  have hc0 : ∀ X, Below W0.heap.size W0 X → Calls Tryd.prog 51 #[.slice (some ⟨y, 0, none⟩) 48 48] X fun e w' => e = .returned (.agg (vs .u8 32 (bR x.f0 48))) ∧ Below X.heap.size X w' := fun X h => broot_any _ 48 48 x.f0 X (seg_bys (hry X (h.mono hy1)) 0 48 x.f0 rfl 0 rfl (by omega)) (by omega) hx.1 (hSh X h)
  have hd0 : ∀ j, j < 32 → 0 ≤ (bR x.f0 48) j ∧ (bR x.f0 48) j < 256 := fun j hj => treeV_bd (pk_bd hx.1 _) _ j hj
  have hc1 : ∀ X, Below W0.heap.size W0 X → Calls Tryd.prog 51 #[.slice (some ⟨y, 48, none⟩) 32 32] X fun e w' => e = .returned (.agg (vs .u8 32 (bR x.f1 32))) ∧ Below X.heap.size X w' := fun X h => broot_any _ 32 32 x.f1 X (seg_bys (hry X (h.mono hy1)) 1 32 x.f1 rfl 48 rfl (by omega)) (by omega) hx.2.1 (hSh X h)
  have hd1 : ∀ j, j < 32 → 0 ≤ (bR x.f1 32) j ∧ (bR x.f1 32) j < 256 := fun j hj => treeV_bd (pk_bd hx.2.1 _) _ j hj
  have hc2 : ∀ X, Below W0.heap.size W0 X → Calls Tryd.prog 52 #[.int .u64 x.f2] X fun e w' => e = .returned (.agg (vs .u8 32 (bR (nmB x.f2) 8))) ∧ Below X.heap.size X w' := fun X h => nroot7 x.f2 X hx.2.2.1.1 hx.2.2.1.2 (hSh X h)
  have hd2 : ∀ j, j < 32 → 0 ≤ (bR (nmB x.f2) 8) j ∧ (bR (nmB x.f2) 8) j < 256 := fun j hj => treeV_bd (pk_bd (fun j _ => nmB_bd _ j) _) _ j hj
  have HL2 : Hid (∀ X, Below (y + 1) W0 X → X.cell? ⟨y, 80, none⟩ = some (.int .u64 x.f2)) := fun X h => seg_nu (hry X h) 2 x.f2 rfl 80 rfl
  have hc3 : ∀ X g, Below W0.heap.size W0 X → Bys X (some ⟨g, 0, none⟩) 1 1 (bbB x.f3) → Calls Tryd.prog 51 #[.slice (some ⟨g, 0, none⟩) 1 1] X fun e w' => e = .returned (.agg (vs .u8 32 (bR (bbB x.f3) 1))) ∧ Below X.heap.size X w' := fun X g h hb => broot_any _ 1 1 (bbB x.f3) X hb (by omega) (fun j _ => bbB_bd _ j) (hSh X h)
  have hd3 : ∀ j, j < 32 → 0 ≤ (bR (bbB x.f3) 1) j ∧ (bR (bbB x.f3) 1) j < 256 := fun j hj => treeV_bd (pk_bd (fun j _ => bbB_bd _ j) _) _ j hj
  have HL3 : Hid (∀ X, Below (y + 1) W0 X → X.cell? ⟨y, 81, none⟩ = some (.bool x.f3)) := fun X h => seg_bo (hry X h) 3 x.f3 rfl 81 rfl
  have hc4 : ∀ X, Below W0.heap.size W0 X → Calls Tryd.prog 52 #[.int .u64 x.f4] X fun e w' => e = .returned (.agg (vs .u8 32 (bR (nmB x.f4) 8))) ∧ Below X.heap.size X w' := fun X h => nroot7 x.f4 X hx.2.2.2.2.1.1 hx.2.2.2.2.1.2 (hSh X h)
  have hd4 : ∀ j, j < 32 → 0 ≤ (bR (nmB x.f4) 8) j ∧ (bR (nmB x.f4) 8) j < 256 := fun j hj => treeV_bd (pk_bd (fun j _ => nmB_bd _ j) _) _ j hj
  have HL4 : Hid (∀ X, Below (y + 1) W0 X → X.cell? ⟨y, 82, none⟩ = some (.int .u64 x.f4)) := fun X h => seg_nu (hry X h) 4 x.f4 rfl 82 rfl
  have hc5 : ∀ X, Below W0.heap.size W0 X → Calls Tryd.prog 52 #[.int .u64 x.f5] X fun e w' => e = .returned (.agg (vs .u8 32 (bR (nmB x.f5) 8))) ∧ Below X.heap.size X w' := fun X h => nroot7 x.f5 X hx.2.2.2.2.2.1.1 hx.2.2.2.2.2.1.2 (hSh X h)
  have hd5 : ∀ j, j < 32 → 0 ≤ (bR (nmB x.f5) 8) j ∧ (bR (nmB x.f5) 8) j < 256 := fun j hj => treeV_bd (pk_bd (fun j _ => nmB_bd _ j) _) _ j hj
  have HL5 : Hid (∀ X, Below (y + 1) W0 X → X.cell? ⟨y, 83, none⟩ = some (.int .u64 x.f5)) := fun X h => seg_nu (hry X h) 5 x.f5 rfl 83 rfl
  have hc6 : ∀ X, Below W0.heap.size W0 X → Calls Tryd.prog 52 #[.int .u64 x.f6] X fun e w' => e = .returned (.agg (vs .u8 32 (bR (nmB x.f6) 8))) ∧ Below X.heap.size X w' := fun X h => nroot7 x.f6 X hx.2.2.2.2.2.2.1.1 hx.2.2.2.2.2.2.1.2 (hSh X h)
  have hd6 : ∀ j, j < 32 → 0 ≤ (bR (nmB x.f6) 8) j ∧ (bR (nmB x.f6) 8) j < 256 := fun j hj => treeV_bd (pk_bd (fun j _ => nmB_bd _ j) _) _ j hj
  have HL6 : Hid (∀ X, Below (y + 1) W0 X → X.cell? ⟨y, 84, none⟩ = some (.int .u64 x.f6)) := fun X h => seg_nu (hry X h) 6 x.f6 rfl 84 rfl
  have hc7 : ∀ X, Below W0.heap.size W0 X → Calls Tryd.prog 52 #[.int .u64 x.f7] X fun e w' => e = .returned (.agg (vs .u8 32 (bR (nmB x.f7) 8))) ∧ Below X.heap.size X w' := fun X h => nroot7 x.f7 X hx.2.2.2.2.2.2.2.1 hx.2.2.2.2.2.2.2.2 (hSh X h)
  have hd7 : ∀ j, j < 32 → 0 ≤ (bR (nmB x.f7) 8) j ∧ (bR (nmB x.f7) 8) j < 256 := fun j hj => treeV_bd (pk_bd (fun j _ => nmB_bd _ j) _) _ j hj
  have HL7 : Hid (∀ X, Below (y + 1) W0 X → X.cell? ⟨y, 85, none⟩ = some (.int .u64 x.f7)) := fun X h => seg_nu (hry X h) 7 x.f7 rfl 85 rfl
  have eh : hValidator x = treeV (fl7 [bR x.f0 48, bR x.f1 32, bR (nmB x.f2) 8, bR (bbB x.f3) 1, bR (nmB x.f4) 8, bR (nmB x.f5) 8, bR (nmB x.f6) 8, bR (nmB x.f7) 8]) 8 (8 : Nat) := rfl
  obtain ⟨C0, eC0⟩ : ∃ C, bR x.f0 48 = C := ⟨_, rfl⟩
  rw [eC0] at hc0 hd0 eh
  obtain ⟨C1, eC1⟩ : ∃ C, bR x.f1 32 = C := ⟨_, rfl⟩
  rw [eC1] at hc1 hd1 eh
  obtain ⟨C2, eC2⟩ : ∃ C, bR (nmB x.f2) 8 = C := ⟨_, rfl⟩
  rw [eC2] at hc2 hd2 eh
  obtain ⟨C3, eC3⟩ : ∃ C, bR (bbB x.f3) 1 = C := ⟨_, rfl⟩
  rw [eC3] at hc3 hd3 eh
  obtain ⟨C4, eC4⟩ : ∃ C, bR (nmB x.f4) 8 = C := ⟨_, rfl⟩
  rw [eC4] at hc4 hd4 eh
  obtain ⟨C5, eC5⟩ : ∃ C, bR (nmB x.f5) 8 = C := ⟨_, rfl⟩
  rw [eC5] at hc5 hd5 eh
  obtain ⟨C6, eC6⟩ : ∃ C, bR (nmB x.f6) 8 = C := ⟨_, rfl⟩
  rw [eC6] at hc6 hd6 eh
  obtain ⟨C7, eC7⟩ : ∃ C, bR (nmB x.f7) 8 = C := ⟨_, rfl⟩
  rw [eC7] at hc7 hd7 eh
  have hro : ∀ X g, Below W0.heap.size W0 X → X.heap[g]? = some (.cells (vs .u8 256 (fl7 [C0, C1, C2, C3, C4, C5, C6, C7])) 31) → Calls Tryd.prog 50 #[.slice (some ⟨g, 0, none⟩) 8 8] X fun e w' => e = .returned (.agg (vs .u8 32 (hValidator x))) ∧ Below X.heap.size X w' := fun X g h h2 => by
    rw [eh]
    exact rootof_any (some ⟨g, 0, none⟩) 8 8 (fl7 [C0, C1, C2, C3, C4, C5, C6, C7]) X (rts_row (n := 8) h2) (by omega) (fl7_bd (fun c hc => by
      simp only [List.mem_cons, List.not_mem_nil, or_false] at hc
      rcases hc with rfl | rfl | rfl | rfl | rfl | rfl | rfl | rfl
      · exact hd0
      · exact hd1
      · exact hd2
      · exact hd3
      · exact hd4
      · exact hd5
      · exact hd6
      · exact hd7
      ) _) (hSh X h)
  obtain ⟨D, eD⟩ : ∃ D, hValidator x = D := ⟨_, rfl⟩
  rw [eD] at hro ⊢
  have HC0 := hid hc0
  have HC1 := hid hc1
  have HC2 := hid hc2
  have HC3 := hid hc3
  have HC4 := hid hc4
  have HC5 := hid hc5
  have HC6 := hid hc6
  have HC7 := hid hc7
  have HRO := hid hro
  have HRR := hid hrr
  have hdr : Below W0.heap.size W0 W0.drew := (Below.refl _ _).drew
  have S0 := hid hdr
  have HB0w := hid hB0
  have EY := hid ey
  have Z0 := hid z0
  have HY1 := hid hy1
  clear hy1 hdr hB0 r0 r1 rr hry hrr hx hro hSh hS hB1 hc0 hd0 eC0 hc1 hd1 eC1 hc2 hd2 eC2 hc3 hd3 eC3 hc4 hd4 eC4 hc5 hd5 eC5 hc6 hd6 eC6 hc7 hd7 eC7 eh eD
  go_enter Tryd.func23, Tryd.ntmps23
  go_upto_region 1 with fail
  clear hW0 hW1 ey z0 z1 z
  refine wp_region_noPanic ?_
  refine wp_region_held_drew (S := fun X => Below (y + 1) W0 X) (by kernel_rfl) (S0.out.mono HY1.out) (fun hHeld => ?_)
  refine wpAnyH_take (i := 0) (v := ?v11) rfl (by kernel_rfl) (by kernel_rfl) (by kernel_rfl) (fun _ _ _ h => h) (Or.inl ⟨by rfl, ?hy11⟩) hHeld ?rest11
  case hy11 =>
    intro w hSw
    go_simp
    try with_reducible rfl
  try simp only [Act.put, List.setIfInBounds_toArray, List.set_cons_zero, List.set_cons_succ, Array.toArray_toList, List.getElem_toArray, List.getElem_cons_zero, List.getElem_cons_succ]
  refine wpAnyH_take (i := 1) (v := ?v12) rfl (by kernel_rfl) (by kernel_rfl) (by kernel_rfl) (fun _ _ _ h => h) (Or.inl ⟨by rfl, ?hy12⟩) hHeld ?rest12
  case hy12 =>
    intro w hSw
    go_simp
    try with_reducible rfl
  try simp only [Act.put, List.setIfInBounds_toArray, List.set_cons_zero, List.set_cons_succ, Array.toArray_toList, List.getElem_toArray, List.getElem_cons_zero, List.getElem_cons_succ]
  refine wpAnyH_take (i := 3) (v := ?v13) rfl (by kernel_rfl) (by kernel_rfl) (by kernel_rfl) (fun _ _ _ h => h) (Or.inl ⟨by rfl, ?hy13⟩) hHeld ?rest13
  case hy13 =>
    intro w hSw
    go_simp
    try with_reducible rfl
  try simp only [Act.put, List.setIfInBounds_toArray, List.set_cons_zero, List.set_cons_succ, Array.toArray_toList, List.getElem_toArray, List.getElem_cons_zero, List.getElem_cons_succ]
  refine wpAnyH_take (i := 4) (v := ?v14) rfl (by kernel_rfl) (by kernel_rfl) (by kernel_rfl) (fun _ _ _ h => h) (Or.inl ⟨by rfl, ?hy14⟩) hHeld ?rest14
  case hy14 =>
    intro w hSw
    go_simp
    try with_reducible rfl
  try simp only [Act.put, List.setIfInBounds_toArray, List.set_cons_zero, List.set_cons_succ, Array.toArray_toList, List.getElem_toArray, List.getElem_cons_zero, List.getElem_cons_succ]
  refine wpAnyH_take (i := 6) (v := ?v15) rfl (by kernel_rfl) (by kernel_rfl) (by kernel_rfl) (fun _ _ _ h => h) (Or.inl ⟨by rfl, ?hy15⟩) hHeld ?rest15
  case hy15 =>
    intro w hSw
    go_simp
    try with_reducible rfl
  try simp only [Act.put, List.setIfInBounds_toArray, List.set_cons_zero, List.set_cons_succ, Array.toArray_toList, List.getElem_toArray, List.getElem_cons_zero, List.getElem_cons_succ]
  refine wpAnyH_take (i := 7) (v := ?v16) rfl (by kernel_rfl) (by kernel_rfl) (by kernel_rfl) (fun _ _ _ h => h) (Or.inl ⟨by rfl, ?hy16⟩) hHeld ?rest16
  case hy16 =>
    intro w hSw
    have ld := HL2.out _ hSw
    go_simp
    try with_reducible rfl
  try simp only [Act.put, List.setIfInBounds_toArray, List.set_cons_zero, List.set_cons_succ, Array.toArray_toList, List.getElem_toArray, List.getElem_cons_zero, List.getElem_cons_succ]
  refine wpAnyH_take (i := 9) (v := ?v17) rfl (by kernel_rfl) (by kernel_rfl) (by kernel_rfl) (fun _ _ _ h => h) (Or.inl ⟨by rfl, ?hy17⟩) hHeld ?rest17
  case hy17 =>
    intro w hSw
    go_simp
    try with_reducible rfl
  try simp only [Act.put, List.setIfInBounds_toArray, List.set_cons_zero, List.set_cons_succ, Array.toArray_toList, List.getElem_toArray, List.getElem_cons_zero, List.getElem_cons_succ]
  refine wpAnyH_take (i := 10) (v := ?v18) rfl (by kernel_rfl) (by kernel_rfl) (by kernel_rfl) (fun _ _ _ h => h) (Or.inl ⟨by rfl, ?hy18⟩) hHeld ?rest18
  case hy18 =>
    intro w hSw
    have ld := HL3.out _ hSw
    go_simp
    try with_reducible rfl
  try simp only [Act.put, List.setIfInBounds_toArray, List.set_cons_zero, List.set_cons_succ, Array.toArray_toList, List.getElem_toArray, List.getElem_cons_zero, List.getElem_cons_succ]
  refine wpAnyH_take (i := 13) (v := ?v19) rfl (by kernel_rfl) (by kernel_rfl) (by kernel_rfl) (fun _ _ _ h => h) (Or.inl ⟨by rfl, ?hy19⟩) hHeld ?rest19
  case hy19 =>
    intro w hSw
    go_simp
    try with_reducible rfl
  try simp only [Act.put, List.setIfInBounds_toArray, List.set_cons_zero, List.set_cons_succ, Array.toArray_toList, List.getElem_toArray, List.getElem_cons_zero, List.getElem_cons_succ]
  refine wpAnyH_take (i := 14) (v := ?v20) rfl (by kernel_rfl) (by kernel_rfl) (by kernel_rfl) (fun _ _ _ h => h) (Or.inl ⟨by rfl, ?hy20⟩) hHeld ?rest20
  case hy20 =>
    intro w hSw
    have ld := HL4.out _ hSw
    go_simp
    try with_reducible rfl
  try simp only [Act.put, List.setIfInBounds_toArray, List.set_cons_zero, List.set_cons_succ, Array.toArray_toList, List.getElem_toArray, List.getElem_cons_zero, List.getElem_cons_succ]
  refine wpAnyH_take (i := 16) (v := ?v21) rfl (by kernel_rfl) (by kernel_rfl) (by kernel_rfl) (fun _ _ _ h => h) (Or.inl ⟨by rfl, ?hy21⟩) hHeld ?rest21
  case hy21 =>
    intro w hSw
    go_simp
    try with_reducible rfl
  try simp only [Act.put, List.setIfInBounds_toArray, List.set_cons_zero, List.set_cons_succ, Array.toArray_toList, List.getElem_toArray, List.getElem_cons_zero, List.getElem_cons_succ]
  refine wpAnyH_take (i := 17) (v := ?v22) rfl (by kernel_rfl) (by kernel_rfl) (by kernel_rfl) (fun _ _ _ h => h) (Or.inl ⟨by rfl, ?hy22⟩) hHeld ?rest22
  case hy22 =>
    intro w hSw
    have ld := HL5.out _ hSw
    go_simp
    try with_reducible rfl
  try simp only [Act.put, List.setIfInBounds_toArray, List.set_cons_zero, List.set_cons_succ, Array.toArray_toList, List.getElem_toArray, List.getElem_cons_zero, List.getElem_cons_succ]
  refine wpAnyH_take (i := 19) (v := ?v23) rfl (by kernel_rfl) (by kernel_rfl) (by kernel_rfl) (fun _ _ _ h => h) (Or.inl ⟨by rfl, ?hy23⟩) hHeld ?rest23
  case hy23 =>
    intro w hSw
    go_simp
    try with_reducible rfl
  try simp only [Act.put, List.setIfInBounds_toArray, List.set_cons_zero, List.set_cons_succ, Array.toArray_toList, List.getElem_toArray, List.getElem_cons_zero, List.getElem_cons_succ]
  refine wpAnyH_take (i := 20) (v := ?v24) rfl (by kernel_rfl) (by kernel_rfl) (by kernel_rfl) (fun _ _ _ h => h) (Or.inl ⟨by rfl, ?hy24⟩) hHeld ?rest24
  case hy24 =>
    intro w hSw
    have ld := HL6.out _ hSw
    go_simp
    try with_reducible rfl
  try simp only [Act.put, List.setIfInBounds_toArray, List.set_cons_zero, List.set_cons_succ, Array.toArray_toList, List.getElem_toArray, List.getElem_cons_zero, List.getElem_cons_succ]
  refine wpAnyH_take (i := 22) (v := ?v25) rfl (by kernel_rfl) (by kernel_rfl) (by kernel_rfl) (fun _ _ _ h => h) (Or.inl ⟨by rfl, ?hy25⟩) hHeld ?rest25
  case hy25 =>
    intro w hSw
    go_simp
    try with_reducible rfl
  try simp only [Act.put, List.setIfInBounds_toArray, List.set_cons_zero, List.set_cons_succ, Array.toArray_toList, List.getElem_toArray, List.getElem_cons_zero, List.getElem_cons_succ]
  refine wpAnyH_take (i := 23) (v := ?v26) rfl (by kernel_rfl) (by kernel_rfl) (by kernel_rfl) (fun _ _ _ h => h) (Or.inl ⟨by rfl, ?hy26⟩) hHeld ?rest26
  case hy26 =>
    intro w hSw
    have ld := HL7.out _ hSw
    go_simp
    try with_reducible rfl
  try simp only [Act.put, List.setIfInBounds_toArray, List.set_cons_zero, List.set_cons_succ, Array.toArray_toList, List.getElem_toArray, List.getElem_cons_zero, List.getElem_cons_succ]
  refine wpAnyH_ready (rs := [2]) (by kernel_rfl) (by simp) ?_
  refine AllReadyH.cons rfl (fun K hK => ?_) AllReadyH.nil
  go_simp
  refine (HC0.out _ S0.out).mono ?_
  rintro e X1 ⟨rfl, hb1⟩
  dsimp only
  have S1 := hid (S0.out.trans (hb1.mono S0.out.size))
  clear hb1
  refine hK.out _ _ (S1.out.mono HY1.out) (fun hHeld => ?_)
  clear hK K
  try simp only [Act.put, List.setIfInBounds_toArray, List.set_cons_zero, List.set_cons_succ, Array.toArray_toList, List.getElem_toArray, List.getElem_cons_zero, List.getElem_cons_succ]
  refine wpAnyH_ready (rs := [5]) (by kernel_rfl) (by simp) ?_
  refine AllReadyH.cons rfl (fun K hK => ?_) AllReadyH.nil
  go_simp
  refine (HC1.out _ S1.out).mono ?_
  rintro e X2 ⟨rfl, hb2⟩
  dsimp only
  have S2 := hid (S1.out.trans (hb2.mono S1.out.size))
  clear hb2
  refine hK.out _ _ (S2.out.mono HY1.out) (fun hHeld => ?_)
  clear hK K
  try simp only [Act.put, List.setIfInBounds_toArray, List.set_cons_zero, List.set_cons_succ, Array.toArray_toList, List.getElem_toArray, List.getElem_cons_zero, List.getElem_cons_succ]
  refine wpAnyH_ready (rs := [8]) (by kernel_rfl) (by simp) ?_
  refine AllReadyH.cons rfl (fun K hK => ?_) AllReadyH.nil
  go_simp
  refine (HC2.out _ S2.out).mono ?_
  rintro e X3 ⟨rfl, hb3⟩
  dsimp only
  have S3 := hid (S2.out.trans (hb3.mono S2.out.size))
  clear hb3
  refine hK.out _ _ (S3.out.mono HY1.out) (fun hHeld => ?_)
  clear hK K
  try simp only [Act.put, List.setIfInBounds_toArray, List.set_cons_zero, List.set_cons_succ, Array.toArray_toList, List.getElem_toArray, List.getElem_cons_zero, List.getElem_cons_succ]
  refine wpAnyH_ready (rs := [11]) (by kernel_rfl) (by simp) ?_
  refine AllReadyH.cons rfl (fun K hK => ?_) AllReadyH.nil
  go_simp
  refine (bbytes_any x.f3 _).mono ?_
  rintro e X4 ⟨g4, rfl, hb4, hr4⟩
  dsimp only
  have S4 := hid (S3.out.trans (hb4.mono S3.out.size))
  have R3 := hid (HC3.out X4 g4 S4.out hr4)
  clear hb4 hr4
  refine hK.out _ _ (S4.out.mono HY1.out) (fun hHeld => ?_)
  clear hK K
  try simp only [Act.put, List.setIfInBounds_toArray, List.set_cons_zero, List.set_cons_succ, Array.toArray_toList, List.getElem_toArray, List.getElem_cons_zero, List.getElem_cons_succ]
  refine wpAnyH_ready (rs := [12]) (by kernel_rfl) (by simp) ?_
  refine AllReadyH.cons rfl (fun K hK => ?_) AllReadyH.nil
  go_simp
  refine (R3.out).mono ?_
  rintro e X5 ⟨rfl, hb5⟩
  dsimp only
  have S5 := hid (S4.out.trans (hb5.mono S4.out.size))
  clear hb5
  refine hK.out _ _ (S5.out.mono HY1.out) (fun hHeld => ?_)
  clear hK K
  try simp only [Act.put, List.setIfInBounds_toArray, List.set_cons_zero, List.set_cons_succ, Array.toArray_toList, List.getElem_toArray, List.getElem_cons_zero, List.getElem_cons_succ]
  refine wpAnyH_ready (rs := [15]) (by kernel_rfl) (by simp) ?_
  refine AllReadyH.cons rfl (fun K hK => ?_) AllReadyH.nil
  go_simp
  refine (HC4.out _ S5.out).mono ?_
  rintro e X6 ⟨rfl, hb6⟩
  dsimp only
  have S6 := hid (S5.out.trans (hb6.mono S5.out.size))
  clear hb6
  refine hK.out _ _ (S6.out.mono HY1.out) (fun hHeld => ?_)
  clear hK K
  try simp only [Act.put, List.setIfInBounds_toArray, List.set_cons_zero, List.set_cons_succ, Array.toArray_toList, List.getElem_toArray, List.getElem_cons_zero, List.getElem_cons_succ]
  refine wpAnyH_ready (rs := [18]) (by kernel_rfl) (by simp) ?_
  refine AllReadyH.cons rfl (fun K hK => ?_) AllReadyH.nil
  go_simp
  refine (HC5.out _ S6.out).mono ?_
  rintro e X7 ⟨rfl, hb7⟩
  dsimp only
  have S7 := hid (S6.out.trans (hb7.mono S6.out.size))
  clear hb7
  refine hK.out _ _ (S7.out.mono HY1.out) (fun hHeld => ?_)
  clear hK K
  try simp only [Act.put, List.setIfInBounds_toArray, List.set_cons_zero, List.set_cons_succ, Array.toArray_toList, List.getElem_toArray, List.getElem_cons_zero, List.getElem_cons_succ]
  refine wpAnyH_ready (rs := [21]) (by kernel_rfl) (by simp) ?_
  refine AllReadyH.cons rfl (fun K hK => ?_) AllReadyH.nil
  go_simp
  refine (HC6.out _ S7.out).mono ?_
  rintro e X8 ⟨rfl, hb8⟩
  dsimp only
  have S8 := hid (S7.out.trans (hb8.mono S7.out.size))
  clear hb8
  refine hK.out _ _ (S8.out.mono HY1.out) (fun hHeld => ?_)
  clear hK K
  try simp only [Act.put, List.setIfInBounds_toArray, List.set_cons_zero, List.set_cons_succ, Array.toArray_toList, List.getElem_toArray, List.getElem_cons_zero, List.getElem_cons_succ]
  refine wpAnyH_ready (rs := [24]) (by kernel_rfl) (by simp) ?_
  refine AllReadyH.cons rfl (fun K hK => ?_) AllReadyH.nil
  go_simp
  refine (HC7.out _ S8.out).mono ?_
  rintro e X9 ⟨rfl, hb9⟩
  dsimp only
  have S9 := hid (S8.out.trans (hb9.mono S8.out.size))
  clear hb9
  refine hK.out _ _ (S9.out.mono HY1.out) (fun hHeld => ?_)
  clear hK K
  try simp only [Act.put, List.setIfInBounds_toArray, List.set_cons_zero, List.set_cons_succ, Array.toArray_toList, List.getElem_toArray, List.getElem_cons_zero, List.getElem_cons_succ]
  have bs := bs22_8 X9 C0 C1 C2 C3 C4 C5 C6 C7
  have hBn : Below X9.heap.size X9 (X9.alloc (.cells (vs .u8 256 (fl7 [C0, C1, C2, C3, C4, C5, C6, C7])) 31)) := (Below.refl _ _).alloc (Nat.le_refl _) _
  have HBN := hid (S9.out.trans (hBn.mono S9.out.size))
  have HLA := hid (HRO.out (X9.alloc (.cells (vs .u8 256 (fl7 [C0, C1, C2, C3, C4, C5, C6, C7])) 31)) X9.heap.size HBN.out (heap_new rfl))
  clear hBn
  refine wpAnyH_ready (rs := [25]) (by kernel_rfl) (by simp) ?_
  refine AllReadyH.cons rfl (fun K hK => ?_) AllReadyH.nil
  go_simp
  refine hK.out _ _ (HBN.out.mono HY1.out) (fun hHeld => ?_)
  clear hK K bs
  try simp only [Act.put, List.setIfInBounds_toArray, List.set_cons_zero, List.set_cons_succ, Array.toArray_toList, List.getElem_toArray, List.getElem_cons_zero, List.getElem_cons_succ]
  refine wpAnyH_ready (rs := [26]) (by kernel_rfl) (by simp) ?_
  refine AllReadyH.cons rfl (fun K hK => ?_) AllReadyH.nil
  go_simp
  refine (HLA.out).mono ?_
  rintro e Y ⟨rfl, hbY⟩
  dsimp only
  have HY := hid (HBN.out.trans (hbY.mono HBN.out.size))
  clear hbY
  refine hK.out _ _ (HY.out.mono HY1.out) (fun hHeld => ?_)
  clear hK K
  try simp only [Act.put, List.setIfInBounds_toArray, List.set_cons_zero, List.set_cons_succ, Array.toArray_toList, List.getElem_toArray, List.getElem_cons_zero, List.getElem_cons_succ]
  have rY := HRR.out _ HY.out
  have s1 := sv24_run rY D
  have RY := hid rY
  clear rY
  refine wpAnyH_ready (rs := [27]) (by kernel_rfl) (by simp) ?_
  refine AllReadyH.cons rfl (fun K hK => ?_) AllReadyH.nil
  go_simp
  refine hK.out _ _ (below_row (HY.out.mono HY1.out) (Nat.le_refl _) _) (fun hHeld => ?_)
  clear hK K s1
  try simp only [Act.put, List.setIfInBounds_toArray, List.set_cons_zero, List.set_cons_succ, Array.toArray_toList, List.getElem_toArray, List.getElem_cons_zero, List.getElem_cons_succ]
  refine wpAnyH_done (by kernel_rfl) ?_ _
  refine NoPanic.normal ?_
  go_wp2
  refine ret24 _ (y + 1) _ 31 rfl rfl rfl (setRow_at RY.out) ⟨rfl, ?_⟩
  have e0 := EY.out
  have e1 := Z0.out
  exact below_row (HB0w.out.trans (HY.out.mono (by omega))) (by omega) _

end Go.Proofs.YtaodonmbanpieaaDoor
