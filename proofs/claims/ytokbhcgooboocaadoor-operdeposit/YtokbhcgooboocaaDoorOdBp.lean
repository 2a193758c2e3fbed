/-
  proofRoot; what RootDeposit answers.
-/
import Derived.Test.YtokbhcgooboocaaDoorOdAp
import Derived.Test.YtokbhcgooboocaaDoorOhBp
import Derived.Test.YtokbhcgooboocaaDoorTfDepositDatap
namespace Go.Proofs.YtokbhcgooboocaaDoor
open Go.RowKit
set_option linter.unusedVariables false
set_option linter.unusedSimpArgs false
set_option maxRecDepth 20000

/-- The root of a proof. -/
def hProof (x : VProof) : Nat → Int := treeV x.f0 7 (7 : Nat)
theorem hProof_bd {x : VProof} (hx : OkProof x) (j : Nat) (hj : j < 32) : 0 ≤ hProof x j ∧ hProof x j < 256 := treeV_bd (f := x.f0) (len := 7) hx _ j hj

attribute [local go_sem ↓] sv24_eq lv24_eq ix22_eq slr_eq bd27_eq bs22_eq

set_option maxHeartbeats 1000000 in
theorem proot_any (x : VProof) (w : World) (hx : OkProof x) (hS : Sh w) :
    Calls Tryd.prog 57 #[.agg (vs .u8 224 x.f0)] w fun e w' => e = .returned (.agg (vs .u8 32 (hProof x))) ∧ Below w.heap.size w w' := by
  have z := zero_root
  obtain ⟨f, ef⟩ : ∃ f, x.f0 = f := ⟨_, rfl⟩
  have hf : ∀ j, j < 224 → 0 ≤ f j ∧ f j < 256 := by rw [← ef]; exact hx
  have eh : hProof x = treeV f 7 (7 : Nat) := by unfold hProof; rw [ef]
  rw [ef]
  obtain ⟨y, ey⟩ : ∃ y, w.heap.size = y := ⟨_, rfl⟩
  obtain ⟨W1, hW1⟩ : ∃ W, w.alloc (.cells (vs .u8 224 f) 55) = W := ⟨_, rfl⟩
  obtain ⟨W2, hW2⟩ : ∃ W, W1.alloc (.cells (vs .u8 32 fun _ => 0) 25) = W := ⟨_, rfl⟩
  have z1 : W1.heap.size = y + 1 := by rw [← hW1, ← ey]; simp
  have z2 : W2.heap.size = y + 2 := by rw [← hW2]; simp [z1]
  have hB0 : Below w.heap.size w W2 := by rw [← hW2, ← hW1]; exact ((Below.refl _ _).alloc (Nat.le_refl _) _).alloc (by simp) _
  have r1 : W2.heap[y]? = some (.cells (vs .u8 (32 * 7) f) 55) := by rw [← hW2]; refine (heap_old (by omega)).trans ?_; rw [← hW1]; exact heap_new ey.symm
  have r2 : W2.heap[y + 1]? = some (.cells (vs .u8 32 fun _ => 0) 25) := by rw [← hW2]; exact heap_new z1.symm
  have hro := orootof_any (some ⟨y, 0, none⟩) 7 7 f W2 (rts_row (n := 7) r1) (by omega) hf (hS.below hB0)
  rw [← eh] at hro
  obtain ⟨D, eD⟩ : ∃ D, hProof x = D := ⟨_, rfl⟩
  rw [eD] at hro ⊢
  have HRO := hid hro
  have R2 := hid r2
  have HB0 := hid hB0
  have EY := hid ey
  have Z2 := hid z2
  clear hro r1 r2 hB0 hf hS hx eh ef eD z2
  go_enter Tryd.func57, Tryd.ntmps57
  go_upto_region 1 with fail
  clear hW1 hW2 z1 ey z
  go_wp2_with (go_at_call 30; refine HRO.out.mono ?_; rintro e Y ⟨rfl, hbY⟩; have rY := (hbY.block _ (by have := Z2.out; omega)).trans R2.out; have s1 := sv24_run rY D; have RY := hid rY; have SY := hid hbY; clear rY hbY)
  refine ret24 _ (y + 1) _ 25 rfl rfl rfl (setRow_at RY.out) ⟨rfl, ?_⟩
  have e0 := EY.out
  have e1 := HB0.out.size
  exact below_row (HB0.out.trans (SY.out.mono (by omega))) (by omega) _

theorem rootProof_any (x : VProof) (w : World) (hx : OkProof x) (hS : Sh w) :
    Calls Tryd.prog 57 #[.agg (cel (sProof x))] w fun e w' => e = .returned (.agg (vs .u8 32 (hProof x))) ∧ Below w.heap.size w w' := by
  have h := proot_any x w hx hS
  rw [← cel_one_by 224 x.f0] at h
  exact h

/-- The root of a value. -/
def hDeposit (x : VDeposit) : Nat → Int := treeV (fl7 [hProof x.f0, hDepositData x.f1]) 2 (2 : Nat)
attribute [local go_sem ↓] lvProof_eq lvDepositData_eq

set_option maxRecDepth 20000 in
set_option maxHeartbeats 2000000 in
theorem rootDeposit_any (x : VDeposit) (w : World) (hx : OkDeposit x) (hS : Sh w) :
    Calls Tryd.prog 20 #[.agg (cel (sDeposit x))] w fun e w' => e = .returned (.tuple #[.agg (vs .u8 32 (hDeposit x)), .int .i64 0]) ∧ Below w.heap.size w w' := by
  have z := zero_root
  obtain ⟨W1, hW1⟩ : ∃ W, w.alloc (.cells (cel (sDeposit x)) 61) = W := ⟨_, rfl⟩
  obtain ⟨W0, hW0⟩ : ∃ W, W1.alloc (.cells (vs .u8 32 fun _ => 0) 25) = W := ⟨_, rfl⟩
  have hB1 : Below w.heap.size w W1 := by rw [← hW1]; exact (Below.refl _ _).alloc (Nat.le_refl _) _
  have z1 : W1.heap.size = w.heap.size + 1 := by rw [← hW1]; simp
  have z0 : W0.heap.size = w.heap.size + 2 := by rw [← hW0]; simp [z1]
  have hB0 : Below w.heap.size w W0 := by rw [← hW0]; exact hB1.alloc (by omega) _
  have r1 : W1.heap[w.heap.size]? = some (.cells (cel (sDeposit x)) 61) := by rw [← hW1]; exact heap_new rfl
  have r0 : W0.heap[w.heap.size]? = some (.cells (cel (sDeposit x)) 61) := by rw [← hW0]; exact (heap_old (by omega)).trans r1
  have rr : W0.heap[w.heap.size + 1]? = some (.cells (vs .u8 32 fun _ => 0) 25) := by rw [← hW0]; exact heap_new (by omega)
  obtain ⟨y, ey⟩ : ∃ y, w.heap.size = y := ⟨_, rfl⟩
  have hy1 : y + 1 ≤ W0.heap.size := by omega
  have hry : ∀ X, Below (y + 1) W0 X → X.heap[y]? = some (.cells (cel (sDeposit x)) 61) := fun X h => by rw [← ey]; exact (h.block _ (by omega)).trans r0
  have hrr : ∀ X, Below W0.heap.size W0 X → X.heap[y + 1]? = some (.cells (vs .u8 32 fun _ => 0) 25) := fun X h => by rw [← ey]; exact (h.block _ (by omega)).trans rr
  have hSh : ∀ X, Below W0.heap.size W0 X → Sh X := fun X h => (hS.below hB0).below h
  have hc0 : ∀ X, Below W0.heap.size W0 X → Calls Tryd.prog 57 #[.agg (cel (sProof x.f0))] X fun e w' => e = .returned (.agg (vs .u8 32 (hProof x.f0))) ∧ Below X.heap.size X w' := fun X h => rootProof_any x.f0 X hx.1 (hSh X h)
  have hd0 : ∀ j, j < 32 → 0 ≤ (hProof x.f0) j ∧ (hProof x.f0) j < 256 := fun j hj => hProof_bd hx.1 j hj
  have HL0 : Hid (∀ X, Below (y + 1) W0 X → (lvProof ⟨y, 0, none⟩).run Tryd.prog X = .ok (.agg (cel (sProof x.f0))) X) := fun X h => lvProof_mid (hry X h) 0 rfl rfl
  have hc1 : ∀ X, Below W0.heap.size W0 X → Calls Tryd.prog 58 #[.agg (cel (sDepositData x.f1))] X fun e w' => e = .returned (.agg (vs .u8 32 (hDepositData x.f1))) ∧ Below X.heap.size X w' := fun X h => rootDepositData_any x.f1 X hx.2 (hSh X h)
  have hd1 : ∀ j, j < 32 → 0 ≤ (hDepositData x.f1) j ∧ (hDepositData x.f1) j < 256 := fun j hj => hDepositData_bd hx.2 j hj
  have HL1 : Hid (∀ X, Below (y + 1) W0 X → (lvDepositData ⟨y, 224, none⟩).run Tryd.prog X = .ok (.agg (cel (sDepositData x.f1))) X) := fun X h => lvDepositData_mid (hry X h) 224 rfl rfl
  have eh : hDeposit x = treeV (fl7 [hProof x.f0, hDepositData x.f1]) 2 (2 : Nat) := rfl
  obtain ⟨C0, eC0⟩ : ∃ C, hProof x.f0 = C := ⟨_, rfl⟩
  rw [eC0] at hc0 hd0 eh
  obtain ⟨C1, eC1⟩ : ∃ C, hDepositData x.f1 = C := ⟨_, rfl⟩
  rw [eC1] at hc1 hd1 eh
  have hro : ∀ X g, Below W0.heap.size W0 X → X.heap[g]? = some (.cells (vs .u8 64 (fl7 [C0, C1])) 25) → Calls Tryd.prog 30 #[.slice (some ⟨g, 0, none⟩) 2 2] X fun e w' => e = .returned (.agg (vs .u8 32 (hDeposit x))) ∧ Below X.heap.size X w' := fun X g h h2 => by
    rw [eh]
    exact orootof_any (some ⟨g, 0, none⟩) 2 2 (fl7 [C0, C1]) X (rts_row (n := 2) h2) (by omega) (fl7_bd (fun c hc => by
      simp only [List.mem_cons, List.not_mem_nil, or_false] at hc
      rcases hc with rfl | rfl
      · exact hd0
      · exact hd1
      ) _) (hSh X h)
  obtain ⟨D, eD⟩ : ∃ D, hDeposit x = D := ⟨_, rfl⟩
  rw [eD] at hro ⊢
  have HC0 := hid hc0
  have HC1 := hid hc1
  have HRO := hid hro
  have HRR := hid hrr
  have hdr : Below W0.heap.size W0 W0.drew := (Below.refl _ _).drew
  have S0 := hid hdr
  have HB0w := hid hB0
  have EY := hid ey
  have Z0 := hid z0
  have HY1 := hid hy1
  clear hy1 hdr hB0 r0 r1 rr hry hrr hx hro hSh hS hB1 hc0 hd0 eC0 hc1 hd1 eC1 eh eD
  go_enter Tryd.func20, Tryd.ntmps20
  go_upto_region 1 with fail
  clear hW0 hW1 ey z0 z1 z
  refine wp_region_noPanic ?_
  refine wp_region_held_drew (S := fun X => Below (y + 1) W0 X) (by kernel_rfl) (S0.out.mono HY1.out) (fun hHeld => ?_)
  refine wpAnyH_take (i := 0) (v := ?v283) rfl (by kernel_rfl) (by kernel_rfl) (by kernel_rfl) (fun _ _ _ h => h) (Or.inl ⟨by rfl, ?hy283⟩) hHeld ?rest283
  case hy283 =>
    intro w hSw
    go_simp
    try with_reducible rfl
  try simp only [Act.put, List.setIfInBounds_toArray, List.set_cons_zero, List.set_cons_succ, Array.toArray_toList, List.getElem_toArray, List.getElem_cons_zero, List.getElem_cons_succ]
  refine wpAnyH_take (i := 1) (v := ?v284) rfl (by kernel_rfl) (by kernel_rfl) (by kernel_rfl) (fun _ _ _ h => h) (Or.inl ⟨by rfl, ?hy284⟩) hHeld ?rest284
  case hy284 =>
    intro w hSw
    have ld := HL0.out _ hSw
    go_simp
    try with_reducible rfl
  try simp only [Act.put, List.setIfInBounds_toArray, List.set_cons_zero, List.set_cons_succ, Array.toArray_toList, List.getElem_toArray, List.getElem_cons_zero, List.getElem_cons_succ]
  refine wpAnyH_take (i := 3) (v := ?v285) rfl (by kernel_rfl) (by kernel_rfl) (by kernel_rfl) (fun _ _ _ h => h) (Or.inl ⟨by rfl, ?hy285⟩) hHeld ?rest285
  case hy285 =>
    intro w hSw
    go_simp
    try with_reducible rfl
  try simp only [Act.put, List.setIfInBounds_toArray, List.set_cons_zero, List.set_cons_succ, Array.toArray_toList, List.getElem_toArray, List.getElem_cons_zero, List.getElem_cons_succ]
  refine wpAnyH_take (i := 4) (v := ?v286) rfl (by kernel_rfl) (by kernel_rfl) (by kernel_rfl) (fun _ _ _ h => h) (Or.inl ⟨by rfl, ?hy286⟩) hHeld ?rest286
  case hy286 =>
    intro w hSw
    have ld := HL1.out _ hSw
    go_simp
    try with_reducible rfl
  try simp only [Act.put, List.setIfInBounds_toArray, List.set_cons_zero, List.set_cons_succ, Array.toArray_toList, List.getElem_toArray, List.getElem_cons_zero, List.getElem_cons_succ]
  refine wpAnyH_ready (rs := [2]) (by kernel_rfl) (by simp) ?_
  refine AllReadyH.cons rfl (fun K hK => ?_) AllReadyH.nil
  go_simp
  refine (HC0.out _ S0.out).mono ?_
  rintro e X1 ⟨rfl, hb1⟩
  dsimp only
  have S1 := hid (S0.out.trans (hb1.mono S0.out.size))
  clear hb1
  refine hK.out _ _ (S1.out.mono HY1.out) (fun hHeld => ?_)
  clear hK K
  try simp only [Act.put, List.setIfInBounds_toArray, List.set_cons_zero, List.set_cons_succ, Array.toArray_toList, List.getElem_toArray, List.getElem_cons_zero, List.getElem_cons_succ]
  refine wpAnyH_ready (rs := [5]) (by kernel_rfl) (by simp) ?_
  refine AllReadyH.cons rfl (fun K hK => ?_) AllReadyH.nil
  go_simp
  refine (HC1.out _ S1.out).mono ?_
  rintro e X2 ⟨rfl, hb2⟩
  dsimp only
  have S2 := hid (S1.out.trans (hb2.mono S1.out.size))
  clear hb2
  refine hK.out _ _ (S2.out.mono HY1.out) (fun hHeld => ?_)
  clear hK K
  try simp only [Act.put, List.setIfInBounds_toArray, List.set_cons_zero, List.set_cons_succ, Array.toArray_toList, List.getElem_toArray, List.getElem_cons_zero, List.getElem_cons_succ]
  have bs := bs22_2 X2 C0 C1
  have hBn : Below X2.heap.size X2 (X2.alloc (.cells (vs .u8 64 (fl7 [C0, C1])) 25)) := (Below.refl _ _).alloc (Nat.le_refl _) _
  have HBN := hid (S2.out.trans (hBn.mono S2.out.size))
  have HLA := hid (HRO.out (X2.alloc (.cells (vs .u8 64 (fl7 [C0, C1])) 25)) X2.heap.size HBN.out (heap_new rfl))
  clear hBn
  refine wpAnyH_ready (rs := [6]) (by kernel_rfl) (by simp) ?_
  refine AllReadyH.cons rfl (fun K hK => ?_) AllReadyH.nil
  go_simp
  refine hK.out _ _ (HBN.out.mono HY1.out) (fun hHeld => ?_)
  clear hK K bs
  try simp only [Act.put, List.setIfInBounds_toArray, List.set_cons_zero, List.set_cons_succ, Array.toArray_toList, List.getElem_toArray, List.getElem_cons_zero, List.getElem_cons_succ]
  refine wpAnyH_ready (rs := [7]) (by kernel_rfl) (by simp) ?_
  refine AllReadyH.cons rfl (fun K hK => ?_) AllReadyH.nil
  go_simp
  refine (HLA.out).mono ?_
  rintro e Y ⟨rfl, hbY⟩
  dsimp only
  have HY := hid (HBN.out.trans (hbY.mono HBN.out.size))
  clear hbY
  refine hK.out _ _ (HY.out.mono HY1.out) (fun hHeld => ?_)
  clear hK K
  try simp only [Act.put, List.setIfInBounds_toArray, List.set_cons_zero, List.set_cons_succ, Array.toArray_toList, List.getElem_toArray, List.getElem_cons_zero, List.getElem_cons_succ]
  have rY := HRR.out _ HY.out
  have s1 := sv24_run rY D
  have RY := hid rY
  clear rY
  refine wpAnyH_ready (rs := [8]) (by kernel_rfl) (by simp) ?_
  refine AllReadyH.cons rfl (fun K hK => ?_) AllReadyH.nil
  go_simp
  refine hK.out _ _ (below_row (HY.out.mono HY1.out) (Nat.le_refl _) _) (fun hHeld => ?_)
  clear hK K s1
  try simp only [Act.put, List.setIfInBounds_toArray, List.set_cons_zero, List.set_cons_succ, Array.toArray_toList, List.getElem_toArray, List.getElem_cons_zero, List.getElem_cons_succ]
  refine wpAnyH_take (i := 9) (v := ?v287) rfl (by kernel_rfl) (by kernel_rfl) (by kernel_rfl) (fun _ _ _ h => h) (Or.inl ⟨by rfl, ?hy287⟩) hHeld ?rest287
  case hy287 =>
    intro w hSw
    go_simp
    try with_reducible rfl
  try simp only [Act.put, List.setIfInBounds_toArray, List.set_cons_zero, List.set_cons_succ, Array.toArray_toList, List.getElem_toArray, List.getElem_cons_zero, List.getElem_cons_succ]
  refine wpAnyH_done (by kernel_rfl) ?_ _
  refine NoPanic.normal ?_
  go_wp2
  refine ret24s _ _ (y + 1) _ 25 _ rfl rfl rfl rfl (setRow_at RY.out) ⟨rfl, ?_⟩
  have e0 := EY.out
  have e1 := Z0.out
  exact below_row (HB0w.out.trans (HY.out.mono (by omega))) (by omega) _

end Go.Proofs.YtokbhcgooboocaaDoor
