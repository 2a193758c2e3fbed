/-
  What the reference's Two answers; bytes as a string.
-/
import Derived.Test.YtahnlfiahchdeaaDoorShaV
import Derived.Test.YtahnlfiahchdeaaDoorShaS
import Derived.Laws.BytesString
namespace Go.Proofs.YtahnlfiahchdeaaDoor
open Go.RowKit
set_option linter.unusedVariables false
set_option linter.unusedSimpArgs false

attribute [local go_sem ↓] sv24_eq lv24_eq

set_option maxRecDepth 20000 in
set_option maxHeartbeats 1000000 in
theorem reftwo_any (a b : Nat → Int) (w : World) (hC : Tab w 2 64 KW) (ha : ∀ j, j < 32 → 0 ≤ a j ∧ a j < 256) (hb : ∀ j, j < 32 → 0 ≤ b j ∧ b j < 256) :
    Calls Tryd.prog 32 #[.agg (vs .u8 32 a), .agg (vs .u8 32 b)] w fun e w' => e = .returned (.agg (vs .u8 32 (shaV KW HW (cat a b) 64))) ∧ Below w.heap.size w w' := by
  obtain ⟨cx, hcx⟩ : ∃ c, shaV KW HW (cat a b) 64 = c := ⟨_, rfl⟩
  rw [hcx]
  have hcab : ∀ j, j < 64 → 0 ≤ cat a b j ∧ cat a b j < 256 := by
    intro j hj
    unfold cat
    by_cases h : j < 32
    · rw [if_pos h]; exact ha j h
    · rw [if_neg h]; exact hb _ (by omega)
  have HC := hid hC
  have HAB := hid hcab
  have HCX := hid hcx
  clear hC ha hb hcab hcx
  go_enter Tryd.func32, Tryd.ntmps32
  go_upto_region 1 with fail
  change Code.wp _ _ _ _ (((w.alloc (.cells (vs .u8 32 a) 27)).alloc (.cells (vs .u8 32 b) 27)).alloc (.cells (vs .u8 32 fun _ => 0) 27))
  obtain ⟨W0, hW0⟩ : ∃ W, ((w.alloc (.cells (vs .u8 32 a) 27)).alloc (.cells (vs .u8 32 b) 27)).alloc (.cells (vs .u8 32 fun _ => 0) 27) = W := ⟨_, rfl⟩
  rw [hW0]
  have s0 : W0.heap.size = w.heap.size + 1 + 1 + 1 := by rw [← hW0]; simp
  have hB0 : Below w.heap.size w W0 := by rw [← hW0]; go_grown
  have ra : W0.heap[w.heap.size]? = some (.cells (vs .u8 32 a) 27) := by rw [← hW0]; exact (heap_old (by simp; omega)).trans ((heap_old (by simp)).trans (heap_new rfl))
  have rb : W0.heap[w.heap.size + 1]? = some (.cells (vs .u8 32 b) 27) := by rw [← hW0]; exact (heap_old (by simp)).trans (heap_new (by simp))
  have rr : W0.heap[w.heap.size + 1 + 1]? = some (.cells (vs .u8 32 fun _ => 0) 27) := by rw [← hW0]; exact heap_new (by simp)
  obtain ⟨z, hz⟩ : ∃ z, W0.heap.size = z := ⟨_, rfl⟩
  rw [hz] at s0
  have hdr : Below z W0 W0.drew := ⟨rfl, rfl, rfl, Nat.le_refl _, fun _ _ => rfl⟩
  have hbw : ∀ w', Below z W0 w' → Below w.heap.size w w' := fun w' h => hB0.trans (h.mono (by omega))
  have hap : ∀ (m c : Nat → Int) (bb : Nat) w' v n, Below z W0 w' → w'.ownsRow z 5 1 v n (bl m n) → W0.heap[bb]? = some (.cells (vs .u8 32 c) 27) → bb < z → (∀ j, j < 32 → m (n + j) = c j) → n ≤ 64 → ∀ ty, ∃ g C w'', (ap22 ty v (.slice (some ⟨bb, 0, none⟩) 32 32)).run Tryd.prog w' = .ok (.slice (some ⟨g, 0, none⟩) (n + 32) C) w'' ∧ w''.ownsRow z 5 1 (.slice (some ⟨g, 0, none⟩) (n + 32) C) (n + 32) (bl m (n + 32)) ∧ Below z W0 w'' := by
    intro m c bb w' v n h ho hr hbz hm hn ty
    have hzs : z ≤ w'.heap.size := by have := h.size; omega
    obtain ⟨g, C, w'', h1, h2, h3⟩ := ap_root z w' v n m ho bb c (fun j hj => row_int ((h.block bb hbz).trans hr) j hj) hm hzs hn ty
    exact ⟨g, C, w'', h1, h2, below_grown h ho hzs h3⟩
  have hnew : ∀ w', Below z W0 w' → Below z W0 (w'.alloc (.cells #[] 5)) ∧ (w'.alloc (.cells #[] 5)).ownsRow z 5 1 (.slice (some ⟨w'.heap.size, 0, none⟩) 0 0) 0 [] := by
    intro w' h
    have hzs : z ≤ w'.heap.size := by have := h.size; omega
    exact ⟨h.alloc hzs _, World.ownsRow_made _ #[] 0 hzs (Nat.zero_le _) rfl⟩
  have hsm : ∀ w' g C, Below z W0 w' → w'.ownsRow z 5 1 (.slice (some ⟨g, 0, none⟩) (32 + 32) C) (32 + 32) (bl (cat a b) (32 + 32)) → Calls Tryd.prog 40 #[.slice (some ⟨g, 0, none⟩) 64 C] w' fun e w'' => e = .returned (.agg (vs .u8 32 cx)) ∧ Below z W0 w'' := by
    intro w' g C h ho
    obtain ⟨hg0, hg1, hgC, hCm, hgc⟩ := own_cells ho
    rw [← HCX.out]
    refine (refsum_any KW (cat a b) (some ⟨g, 0, none⟩) 64 C w' (HC.out.below (hbw w' h)) (.inr (.inr ⟨g, 0, rfl, by omega, hCm, hg1, fun j hj => by rw [Nat.zero_add]; exact hgc j hj⟩)) HAB.out (by omega)).mono ?_
    rintro e w'' ⟨rfl, hb⟩
    exact ⟨rfl, h.trans (hb.mono (by have := h.size; omega))⟩
  have HDR := hid hdr
  have HBW := hid hbw
  have HAP := hid hap
  have HNEW := hid hnew
  have HSM := hid hsm
  have HRA := hid ra
  have HRB := hid rb
  have HRR := hid rr
  have HZ := hid s0
  clear hW0 s0 hB0 ra rb rr hz hdr hbw hap hnew hsm
  refine wp_region_noPanic ?_
  refine wp_region_held_drew (S := fun _ => True) (by kernel_rfl) trivial (fun hHeld => ?_)
  refine wpAnyH_take (i := 1) (v := ?v1) rfl (by kernel_rfl) (by kernel_rfl) (by kernel_rfl) (fun _ _ _ h => h) (Or.inl ⟨by rfl, ?hy1⟩) hHeld ?rest1
  case hy1 =>
    intro w hSw
    go_simp
    try with_reducible rfl
  try simp only [Act.put, List.setIfInBounds_toArray, List.set_cons_zero, List.set_cons_succ, Array.toArray_toList, List.getElem_toArray, List.getElem_cons_zero, List.getElem_cons_succ]
  refine wpAnyH_take (i := 3) (v := ?v3) rfl (by kernel_rfl) (by kernel_rfl) (by kernel_rfl) (fun _ _ _ h => h) (Or.inl ⟨by rfl, ?hy3⟩) hHeld ?rest3
  case hy3 =>
    intro w hSw
    go_simp
    try with_reducible rfl
  try simp only [Act.put, List.setIfInBounds_toArray, List.set_cons_zero, List.set_cons_succ, Array.toArray_toList, List.getElem_toArray, List.getElem_cons_zero, List.getElem_cons_succ]
  refine wpAnyH_ready (rs := [0]) (by kernel_rfl) (by simp) ?_
  refine AllReadyH.cons rfl (fun K hK => ?_) AllReadyH.nil
  go_simp
  refine hK.out _ _ trivial (fun hHeld => ?_)
  clear hK K
  try simp only [Act.put, List.setIfInBounds_toArray, List.set_cons_zero, List.set_cons_succ, Array.toArray_toList, List.getElem_toArray, List.getElem_cons_zero, List.getElem_cons_succ]
  refine wpAnyH_ready (rs := [2]) (by kernel_rfl) (by simp) ?_
  refine AllReadyH.cons rfl (fun K hK => ?_) AllReadyH.nil
  obtain ⟨g1, C1, w10, hr10, ho10, hb10⟩ := HAP.out (cat a b) a w.heap.size _ _ 0 (HNEW.out _ HDR.out).1 (HNEW.out _ HDR.out).2 HRA.out (by have := HZ.out; omega) (fun j hj => by unfold cat; rw [Nat.zero_add, if_pos hj]) (by omega) 23
  rw [if_pos (by rfl)]
  refine wp_append_is _ _ rfl _ _ _ _ rfl rfl hr10 ?_
  refine hK.out _ _ trivial (fun hHeld => ?_)
  clear hK K
  try simp only [Act.put, List.setIfInBounds_toArray, List.set_cons_zero, List.set_cons_succ, Array.toArray_toList, List.getElem_toArray, List.getElem_cons_zero, List.getElem_cons_succ]
  refine wpAnyH_ready (rs := [4]) (by kernel_rfl) (by simp) ?_
  refine AllReadyH.cons rfl (fun K hK => ?_) AllReadyH.nil
  obtain ⟨g2, C2, w11, hr11, ho11, hb11⟩ := HAP.out (cat a b) b (w.heap.size + 1) _ _ 32 hb10 ho10 HRB.out (by have := HZ.out; omega) (fun j hj => by unfold cat; rw [if_neg (by omega), show 32 + j - 32 = j by omega]) (by omega) 23
  rw [if_pos (by rfl)]
  refine wp_append_is _ _ rfl _ _ _ _ rfl rfl hr11 ?_
  refine hK.out _ _ trivial (fun hHeld => ?_)
  clear hK K
  try simp only [Act.put, List.setIfInBounds_toArray, List.set_cons_zero, List.set_cons_succ, Array.toArray_toList, List.getElem_toArray, List.getElem_cons_zero, List.getElem_cons_succ]
  refine wpAnyH_ready (rs := [5]) (by kernel_rfl) (by simp) ?_
  refine AllReadyH.cons rfl (fun K hK => ?_) AllReadyH.nil
  go_simp
  refine (HSM.out _ g2 C2 hb11 ho11).mono ?_
  rintro e w12 ⟨rfl, hb12⟩
  dsimp only
  refine hK.out _ _ trivial (fun hHeld => ?_)
  clear hK K
  try simp only [Act.put, List.setIfInBounds_toArray, List.set_cons_zero, List.set_cons_succ, Array.toArray_toList, List.getElem_toArray, List.getElem_cons_zero, List.getElem_cons_succ]
  have r12 := (hb12.block (w.heap.size + 1 + 1) (by have := HZ.out; omega)).trans HRR.out
  have v24 := sv24_run r12 cx
  refine wpAnyH_ready (rs := [6]) (by kernel_rfl) (by simp) ?_
  refine AllReadyH.cons rfl (fun K hK => ?_) AllReadyH.nil
  go_simp
  refine hK.out _ _ trivial (fun hHeld => ?_)
  clear hK K
  try simp only [Act.put, List.setIfInBounds_toArray, List.set_cons_zero, List.set_cons_succ, Array.toArray_toList, List.getElem_toArray, List.getElem_cons_zero, List.getElem_cons_succ]
  refine wpAnyH_done (by kernel_rfl) ?_ _
  refine NoPanic.normal ?_
  go_wp2
  refine ret24 4 (w.heap.size + 1 + 1) _ 27 rfl rfl rfl (setRow_at r12) ⟨rfl, ?_⟩
  exact below_row (HBW.out _ hb12) (by omega) _

/-- The string of the first len bytes. -/
def strF (m : Nat → Int) (len : Nat) : ByteArray := ((List.range len).map m).foldl (fun r n => r.push (UInt8.ofNat n.toNat)) ByteArray.empty
theorem conv_bys (w : World) (a : Option Addr) (len cap : Nat) (m : Nat → Int) (h : Bys w a len cap m) :
    (convert 23 9 (.slice a len cap)).run Tryd.prog w = .ok (.string (strF m len)) w := by
  rw [run_convert_bytes_string w _ _ _ _ _ _ Tryd.underlying23 Tryd.underlying5 Tryd.underlying9]
  have hs : ∀ (x : Addr), a = some x → (∀ j, j < len → w.cell? (x.add j) = some (.int .u8 (m j))) → (Conv.bytesToString (.slice a len cap)).run Tryd.prog w = .ok (.string (strF m len)) w := by
    rintro x rfl hc
    refine run_bytesToString w x len cap ((List.range len).map m) ?_
    have hh := run_loadCells_list (P := Tryd.prog) w x (((List.range len).map m).map (Value.int .u8)) (by
      intro j v hj
      rw [List.map_map] at hj
      have hlt := (List.getElem?_eq_some_iff.1 hj).1
      rw [List.length_map, List.length_range] at hlt
      rw [hc j hlt]
      rw [List.getElem?_map, List.getElem?_range hlt] at hj
      simpa using hj)
    rw [List.length_map, List.length_map, List.length_range] at hh
    exact hh
  rcases h with ⟨rfl, rfl, rfl⟩ | ⟨x, rfl, rfl⟩ | ⟨b, off, rfl, h2, h3, h4, h5⟩
  · simp [Conv.bytesToString, strF]
  · exact hs x rfl (fun j hj => by omega)
  · exact hs _ rfl (fun j hj => by rw [addr_add]; exact h5 j hj)

end Go.Proofs.YtahnlfiahchdeaaDoor
