/-
  What ShaSums answers.
-/
import Derived.Test.YtgbmjlckaplocaaDoorShaO
import Derived.Test.YtgbmjlckaplocaaDoorShaT
namespace Go.Proofs.YtgbmjlckaplocaaDoor
open Go.RowKit
set_option linter.unusedVariables false
set_option linter.unusedSimpArgs false

attribute [local go_sem ↓] sv24_eq lv24_eq

set_option maxRecDepth 20000 in
set_option maxHeartbeats 1000000 in
theorem sums_any (m a b : Nat → Int) (ao : Option Addr) (len cap : Nat) (w : World) (hbys : Bys w ao len cap m) (hm : ∀ j, j < len → 0 ≤ m j ∧ m j < 256) (hlen : len ≤ 140737488351232)
    (ha : ∀ j, j < 32 → 0 ≤ a j ∧ a j < 256) (hb : ∀ j, j < 32 → 0 ≤ b j ∧ b j < 256) (hH : Tab w 0 8 HW) (hK : Tab w 2 64 KW) (hC : Tab w 1 64 KW) :
    Calls Tryd.prog 3 #[.slice ao len cap, .agg (vs .u8 32 a), .agg (vs .u8 32 b)] w fun e w' => e = .returned (.bool true) ∧ Below w.heap.size w w' := by
  obtain ⟨cx, hcx⟩ : ∃ c, shaV KW HW (cat a b) 64 = c := ⟨_, rfl⟩
  obtain ⟨cm, hcm⟩ : ∃ c, shaV KW HW m len = c := ⟨_, rfl⟩
  have HHH := hid hH
  have HK := hid hK
  have HC := hid hC
  have HA := hid ha
  have HBB := hid hb
  have HCX := hid hcx
  have HCM := hid hcm
  have HBY := hid hbys
  have HMM := hid hm
  clear hH hK hC ha hb hcx hcm hbys hm
  have l1 : (0 : Int) ≤ (len : Int) := by omega
  have l2 : (len : Int) ≤ 140737488351232 := by omega
  go_enter Tryd.func3, Tryd.ntmps3
  go_upto_region 1 with fail
  change Code.wp _ _ _ _ ((w.alloc (.cells (vs .u8 32 a) 24)).alloc (.cells (vs .u8 32 b) 24))
  obtain ⟨W0, hW0⟩ : ∃ W, (w.alloc (.cells (vs .u8 32 a) 24)).alloc (.cells (vs .u8 32 b) 24) = W := ⟨_, rfl⟩
  rw [hW0]
  have s0 : W0.heap.size = w.heap.size + 1 + 1 := by rw [← hW0]; simp
  have hB0 : Below w.heap.size w W0 := by rw [← hW0]; go_grown
  have ra : W0.heap[w.heap.size]? = some (.cells (vs .u8 32 a) 24) := by rw [← hW0]; exact (heap_old (by simp)).trans (heap_new rfl)
  have rb : W0.heap[w.heap.size + 1]? = some (.cells (vs .u8 32 b) 24) := by rw [← hW0]; exact heap_new (by simp)
  have haw := awake_any W0 (HHH.out.below hB0) (HK.out.below hB0)
  have HAW := hid haw
  have HB0 := hid hB0
  have R0 := hid (And.intro ra rb)
  have HS0 := hid s0
  clear hW0 s0 hB0 ra rb haw
  go_upto_region 3 with (go_at_call 8; refine HAW.out.mono ?_; rintro e w1 ⟨rfl, hb1⟩)
  have s0 := HS0.out
  have hB1 : Below w.heap.size w w1 := HB0.out.trans (hb1.mono (by omega))
  have ra := (hb1.block w.heap.size (by omega)).trans R0.out.1
  have rb := (hb1.block (w.heap.size + 1) (by omega)).trans R0.out.2
  have z0 := hb1.size
  obtain ⟨M, hMd⟩ : ∃ M : Nat → Int, (fun j => if j < len then m j else 7) = M := ⟨_, rfl⟩
  have hMm : ∀ j, j < len → M j = m j := fun j hj => by rw [← hMd]; exact if_pos hj
  have hM7 : (7 : Int) = M len := by rw [← hMd]; exact (if_neg (Nat.lt_irrefl _)).symm
  have hby1 : Bys w1 ao len cap M := by
    rcases HBY.out.below hB1 with h | h | ⟨b, off, h1, h2, h3, h4, h5⟩
    · exact .inl h
    · exact .inr (.inl h)
    · exact .inr (.inr ⟨b, off, h1, h2, h3, h4, fun j hj => by rw [h5 j hj, hMm j hj]⟩)
  have HBY1 := hid hby1
  have HM7 := hid hM7
  have HMm := hid hMm
  have H1 : Hid (Below w.heap.size w w1 ∧ w1.heap[w.heap.size]? = some (.cells (vs .u8 32 a) 24) ∧ w1.heap[w.heap.size + 1]? = some (.cells (vs .u8 32 b) 24) ∧ w.heap.size + 1 < w1.heap.size) := ⟨hB1, ra, rb, by omega⟩
  have hlen1 : len + 1 ≤ 140737488355328 := by omega
  clear s0 hB1 ra rb z0 hMd hMm hM7 hby1 R0 HS0 HB0 HAW hb1
  go_upto_region 4 with (first
    | (at_builtin; refine wpList_append_bys _ rfl _ _ rfl w1.heap.size _ 0 [] rfl (World.ownsRow_made _ #[] 0 (Nat.le_refl _) (Nat.zero_le _) rfl) ao len cap M rfl (HBY1.out.below (by go_grown)) (by omega) (by simp) ?_; intro v2 w2 ho2 hg2; rw [Nat.zero_add, List.nil_append] at ho2)
    | (at_builtin; refine wpList_append_byte _ rfl _ _ rfl w1.heap.size v2 len M 7 rfl ho2 rfl HM7.out hlen1 (by have := hg2.size; simp at this; omega) ?_; intro g C W3 ho3 hg3; obtain ⟨c1, c2, c3, c4, c5⟩ := own_cells ho3; have c6 : (len : Int) ≤ (C : Int) := by omega))
  obtain ⟨hB1, ra1, rb1, hz1⟩ := H1.out
  have e2 : Below w1.heap.size w1 w2 := below_grown ((Below.refl _ _).alloc (Nat.le_refl _) _) (World.ownsRow_made _ #[] 0 (Nat.le_refl _) (Nat.zero_le _) rfl) (by simp) hg2
  have e3 : Below w1.heap.size w1 W3 := below_grown e2 ho2 e2.size hg3
  have hB3 : Below w.heap.size w W3 := hB1.trans (e3.mono hB1.size)
  have ra3 := (e3.block w.heap.size (by omega)).trans ra1
  have rb3 := (e3.block (w.heap.size + 1) (by omega)).trans rb1
  have hz3 := e3.size
  have hbs := hB3.size
  obtain ⟨z, hz⟩ : ∃ z, W3.heap.size = z := ⟨_, rfl⟩
  rw [hz] at hz3 c2 hbs
  have hbw : ∀ w', Below z W3 w' → Below w.heap.size w w' := fun w' h => hB3.trans (h.mono (by omega))
  have hdr : Below z W3 W3.drew := ⟨rfl, rfl, rfl, Nat.le_refl _, fun _ _ => rfl⟩
  have hkeep : ∀ w', Below z W3 w' → Below z W3 w' ∧ w'.rangeAt w.heap.size 0 (vs .u8 32 a).toList ∧ w'.rangeAt (w.heap.size + 1) 0 (vs .u8 32 b).toList := by
    intro w' h
    exact ⟨h, range_row ((h.block _ (by omega)).trans ra3), range_row ((h.block _ (by omega)).trans rb3)⟩
  have hgm : ∀ w', Below z W3 w' → Bys w' (some ⟨g, 0, none⟩) len C m := fun w' h =>
    .inr (.inr ⟨g, 0, rfl, by omega, c4, by have := h.size; omega, fun j hj => by rw [Nat.zero_add, below_cell h (by omega), c5 j (by omega), HMm.out j hj]⟩)
  have hs1 : ∀ w', Below z W3 w' → Calls Tryd.prog 9 #[.slice (some ⟨g, 0, none⟩) len C] w' fun e w'' => e = .returned (.agg (vs .u8 32 cm)) ∧ Below z W3 w'' := by
    intro w' h
    rw [← HCM.out]
    refine (sum_byz KW HW m (some ⟨g, 0, none⟩) len C w' (HHH.out.below (hbw w' h)) (HK.out.below (hbw w' h)) HW_bd (hgm w' h).byz HMM.out (by omega)).mono ?_
    rintro e w'' ⟨rfl, hb⟩
    exact ⟨rfl, h.trans (hb.mono (by have := h.size; omega))⟩
  have hs2 : ∀ w', Below z W3 w' → Calls Tryd.prog 10 #[.slice ao len cap] w' fun e w'' => e = .returned (.agg (vs .u8 32 cm)) ∧ Below z W3 w'' := by
    intro w' h
    rw [← HCM.out]
    refine (refsum_any KW m ao len cap w' (HC.out.below (hbw w' h)) (HBY.out.below (hbw w' h)) HMM.out hlen).mono ?_
    rintro e w'' ⟨rfl, hb⟩
    exact ⟨rfl, h.trans (hb.mono (by have := h.size; omega))⟩
  have ht1 : ∀ w', Below z W3 w' → Calls Tryd.prog 11 #[.agg (vs .u8 32 a), .agg (vs .u8 32 b)] w' fun e w'' => e = .returned (.agg (vs .u8 32 cx)) ∧ Below z W3 w'' := by
    intro w' h
    rw [← HCX.out]
    refine (two_any KW HW a b w' (HHH.out.below (hbw w' h)) (HK.out.below (hbw w' h)) HW_bd HA.out HBB.out).mono ?_
    rintro e w'' ⟨rfl, hb⟩
    exact ⟨rfl, h.trans (hb.mono (by have := h.size; omega))⟩
  have ht2 : ∀ w', Below z W3 w' → Calls Tryd.prog 12 #[.agg (vs .u8 32 a), .agg (vs .u8 32 b)] w' fun e w'' => e = .returned (.agg (vs .u8 32 cx)) ∧ Below z W3 w'' := by
    intro w' h
    rw [← HCX.out]
    refine (reftwo_any a b w' (HC.out.below (hbw w' h)) HA.out HBB.out).mono ?_
    rintro e w'' ⟨rfl, hb⟩
    exact ⟨rfl, h.trans (hb.mono (by have := h.size; omega))⟩
  obtain ⟨s, hs⟩ : ∃ s, strF m len = s := ⟨_, rfl⟩
  have hv1 : ∀ w', Below z W3 w' → (convert 22 9 (.slice (some ⟨g, 0, none⟩) len C)).run Tryd.prog w' = .ok (.string s) w' := fun w' h => by rw [← hs]; exact conv_bys w' _ len C m (hgm w' h)
  have hv2 : ∀ w', Below z W3 w' → (convert 22 9 (.slice ao len cap)).run Tryd.prog w' = .ok (.string s) w' := fun w' h => by rw [← hs]; exact conv_bys w' _ len cap m (HBY.out.below (hbw w' h))
  have h7 : ∀ w', Below z W3 w' → w'.cell? ⟨g, len, none⟩ = some (.int .u8 7) := fun w' h => by rw [below_cell h (by omega), c5 len (by omega), ← HM7.out]
  have u24 := Tryd.underlying24
  have i24 : ∀ c : Nat → Int, (Tryd.prog.info? 24).map (·.size) = some (vs .u8 32 c).toList.length := fun c => by rw [Array.length_toList, vs_size]; kernel_rfl
  have ia := i24 a
  have ib := i24 b
  have qx := fun w => eq32 w cx
  have qm := fun w => eq32 w cm
  have n1 : ((len : Int) + 1).toNat = len + 1 := by omega
  have n2 : (len : Int) + 1 ≤ (C : Int) := by omega
  have n3 : IntKind.i64.wrap ((len : Int) + 1) = (len : Int) + 1 := i64_of _ (by omega) (by omega)
  have n4 : (0 : Int) ≤ (len : Int) + 1 := by omega
  have n5 : (len : Int) < (len : Int) + 1 := by omega
  have HKEEP := hid hkeep
  have HDR := hid hdr
  have HBW := hid hbw
  have HS1 := hid hs1
  have HS2 := hid hs2
  have HT1 := hid ht1
  have HT2 := hid ht2
  have HV1 := hid hv1
  have HV2 := hid hv2
  have H7 := hid h7
  clear hB1 ra1 rb1 hz1 e2 e3 hB3 ra3 rb3 hz3 hbs hz hbw hdr hkeep hgm hs1 hs2 ht1 ht2 hs hv1 hv2 h7 i24 c1 c2 c3 c4 c5 ho2 ho3 hg2 hg3 H1 HBY1
  refine wp_region_noPanic ?_
  refine wp_region_held_drew (S := fun w' => Below z W3 w' ∧ w'.rangeAt w.heap.size 0 (vs .u8 32 a).toList ∧ w'.rangeAt (w.heap.size + 1) 0 (vs .u8 32 b).toList) (by kernel_rfl) (HKEEP.out _ HDR.out) (fun hHeld => ?_)
  refine wpAnyH_take (i := 0) (v := ?v0) rfl (by kernel_rfl) (by kernel_rfl) (by kernel_rfl) (fun _ _ _ h => h) (Or.inl ⟨by rfl, ?hy0⟩) hHeld ?rest0
  case hy0 =>
    intro w hSw
    go_simp
    try with_reducible rfl
  try simp only [Act.put, List.setIfInBounds_toArray, List.set_cons_zero, List.set_cons_succ, Array.toArray_toList, List.getElem_toArray, List.getElem_cons_zero, List.getElem_cons_succ]
  refine wpAnyH_take (i := 2) (v := ?v2) rfl (by kernel_rfl) (by kernel_rfl) (by kernel_rfl) (fun _ _ _ h => h) (Or.inl ⟨by rfl, ?hy2⟩) hHeld ?rest2
  case hy2 =>
    intro w hSw
    go_simp
    try with_reducible rfl
  try simp only [Act.put, List.setIfInBounds_toArray, List.set_cons_zero, List.set_cons_succ, Array.toArray_toList, List.getElem_toArray, List.getElem_cons_zero, List.getElem_cons_succ]
  refine wpAnyH_ready (rs := [1]) (by kernel_rfl) (by simp) ?_
  refine AllReadyH.cons rfl (fun K hK => ?_) AllReadyH.nil
  go_simp
  refine (HS1.out _ HDR.out).mono ?_
  rintro e w4 ⟨rfl, hb4⟩
  dsimp only
  refine hK.out _ _ (HKEEP.out _ hb4) (fun hHeld => ?_)
  clear hK K
  try simp only [Act.put, List.setIfInBounds_toArray, List.set_cons_zero, List.set_cons_succ, Array.toArray_toList, List.getElem_toArray, List.getElem_cons_zero, List.getElem_cons_succ]
  refine wpAnyH_ready (rs := [3]) (by kernel_rfl) (by simp) ?_
  refine AllReadyH.cons rfl (fun K hK => ?_) AllReadyH.nil
  go_simp
  refine (HS2.out _ hb4).mono ?_
  rintro e w5 ⟨rfl, hb5⟩
  dsimp only
  refine hK.out _ _ (HKEEP.out _ hb5) (fun hHeld => ?_)
  clear hK K
  try simp only [Act.put, List.setIfInBounds_toArray, List.set_cons_zero, List.set_cons_succ, Array.toArray_toList, List.getElem_toArray, List.getElem_cons_zero, List.getElem_cons_succ]
  refine wpAnyH_take (i := 4) (v := ?v4) rfl (by kernel_rfl) (by kernel_rfl) (by kernel_rfl) (fun _ _ _ h => h) (Or.inl ⟨by rfl, ?hy4⟩) hHeld ?rest4
  case hy4 =>
    intro w hSw
    go_simp
    try with_reducible rfl
  try simp only [Act.put, List.setIfInBounds_toArray, List.set_cons_zero, List.set_cons_succ, Array.toArray_toList, List.getElem_toArray, List.getElem_cons_zero, List.getElem_cons_succ]
  refine wpAnyH_take (i := 5) (v := ?v5) rfl (by kernel_rfl) (by kernel_rfl) (by kernel_rfl) (fun _ _ _ h => h) (Or.inl ⟨by rfl, ?hy5⟩) hHeld ?rest5
  case hy5 =>
    intro w hSw
    go_simp
    try with_reducible rfl
  try simp only [Act.put, List.setIfInBounds_toArray, List.set_cons_zero, List.set_cons_succ, Array.toArray_toList, List.getElem_toArray, List.getElem_cons_zero, List.getElem_cons_succ]
  refine wpAnyH_take (i := 6) (v := ?v6) rfl (by kernel_rfl) (by kernel_rfl) (by kernel_rfl) (fun _ _ _ h => h) (Or.inl ⟨by rfl, ?hy6⟩) hHeld ?rest6
  case hy6 =>
    intro w hSw
    go_simp
    try with_reducible rfl
  try simp only [Act.put, List.setIfInBounds_toArray, List.set_cons_zero, List.set_cons_succ, Array.toArray_toList, List.getElem_toArray, List.getElem_cons_zero, List.getElem_cons_succ]
  refine wpAnyH_take (i := 8) (v := ?v8) rfl (by kernel_rfl) (by kernel_rfl) (by kernel_rfl) (fun _ _ _ h => h) (Or.inl ⟨by rfl, ?hy8⟩) hHeld ?rest8
  case hy8 =>
    intro w hSw
    go_simp
    try with_reducible rfl
  try simp only [Act.put, List.setIfInBounds_toArray, List.set_cons_zero, List.set_cons_succ, Array.toArray_toList, List.getElem_toArray, List.getElem_cons_zero, List.getElem_cons_succ]
  refine wpAnyH_take (i := 7) (v := ?v7) rfl (by kernel_rfl) (by kernel_rfl) (by kernel_rfl) (fun _ _ _ h => h) (Or.inl ⟨by rfl, ?hy7⟩) hHeld ?rest7
  case hy7 =>
    intro w hSw
    have hc := HV1.out w hSw.1
    go_simp
    try with_reducible rfl
  try simp only [Act.put, List.setIfInBounds_toArray, List.set_cons_zero, List.set_cons_succ, Array.toArray_toList, List.getElem_toArray, List.getElem_cons_zero, List.getElem_cons_succ]
  refine wpAnyH_take (i := 9) (v := ?v9) rfl (by kernel_rfl) (by kernel_rfl) (by kernel_rfl) (fun _ _ _ h => h) (Or.inl ⟨by rfl, ?hy9⟩) hHeld ?rest9
  case hy9 =>
    intro w hSw
    have hc := HV2.out w hSw.1
    go_simp
    try with_reducible rfl
  try simp only [Act.put, List.setIfInBounds_toArray, List.set_cons_zero, List.set_cons_succ, Array.toArray_toList, List.getElem_toArray, List.getElem_cons_zero, List.getElem_cons_succ]
  refine wpAnyH_take (i := 10) (v := ?v10) rfl (by kernel_rfl) (by kernel_rfl) (by kernel_rfl) (fun _ _ _ h => h) (Or.inl ⟨by rfl, ?hy10⟩) hHeld ?rest10
  case hy10 =>
    intro w hSw
    go_simp
    try with_reducible rfl
  try simp only [Act.put, List.setIfInBounds_toArray, List.set_cons_zero, List.set_cons_succ, Array.toArray_toList, List.getElem_toArray, List.getElem_cons_zero, List.getElem_cons_succ]
  refine wpAnyH_take (i := 11) (v := ?v11) rfl (by kernel_rfl) (by kernel_rfl) (by kernel_rfl) (fun _ _ _ h => h) (Or.inl ⟨by rfl, ?hy11⟩) hHeld ?rest11
  case hy11 =>
    intro w hSw
    go_simp
    try with_reducible rfl
  try simp only [Act.put, List.setIfInBounds_toArray, List.set_cons_zero, List.set_cons_succ, Array.toArray_toList, List.getElem_toArray, List.getElem_cons_zero, List.getElem_cons_succ]
  refine wpAnyH_take (i := 12) (v := ?v12) rfl (by kernel_rfl) (by kernel_rfl) (by kernel_rfl) (fun _ _ _ h => h) (Or.inl ⟨by rfl, ?hy12⟩) hHeld ?rest12
  case hy12 =>
    intro w hSw
    go_simp
    try with_reducible rfl
  try simp only [Act.put, List.setIfInBounds_toArray, List.set_cons_zero, List.set_cons_succ, Array.toArray_toList, List.getElem_toArray, List.getElem_cons_zero, List.getElem_cons_succ]
  refine wpAnyH_take (i := 13) (v := ?v13) rfl (by kernel_rfl) (by kernel_rfl) (by kernel_rfl) (fun _ _ _ h => h) (Or.inl ⟨by rfl, ?hy13⟩) hHeld ?rest13
  case hy13 =>
    intro w hSw
    go_simp
    try with_reducible rfl
  try simp only [Act.put, List.setIfInBounds_toArray, List.set_cons_zero, List.set_cons_succ, Array.toArray_toList, List.getElem_toArray, List.getElem_cons_zero, List.getElem_cons_succ]
  refine wpAnyH_take (i := 14) (v := ?v14) rfl (by kernel_rfl) (by kernel_rfl) (by kernel_rfl) (fun _ _ _ h => h) (Or.inl ⟨by rfl, ?hy14⟩) hHeld ?rest14
  case hy14 =>
    intro w hSw
    go_simp
    try with_reducible rfl
  try simp only [Act.put, List.setIfInBounds_toArray, List.set_cons_zero, List.set_cons_succ, Array.toArray_toList, List.getElem_toArray, List.getElem_cons_zero, List.getElem_cons_succ]
  refine wpAnyH_take (i := 18) (v := ?v18) rfl (by kernel_rfl) (by kernel_rfl) (by kernel_rfl) (fun _ _ _ h => h) (Or.inl ⟨by rfl, ?hy18⟩) hHeld ?rest18
  case hy18 =>
    intro w hSw
    go_simp
    try with_reducible rfl
  try simp only [Act.put, List.setIfInBounds_toArray, List.set_cons_zero, List.set_cons_succ, Array.toArray_toList, List.getElem_toArray, List.getElem_cons_zero, List.getElem_cons_succ]
  refine wpAnyH_take (i := 15) (v := ?v15) rfl (by kernel_rfl) (by kernel_rfl) (by kernel_rfl) (fun _ _ _ h => h) (Or.inl ⟨by rfl, ?hy15⟩) hHeld ?rest15
  case hy15 =>
    intro w hSw
    go_simp
    try with_reducible rfl
  try simp only [Act.put, List.setIfInBounds_toArray, List.set_cons_zero, List.set_cons_succ, Array.toArray_toList, List.getElem_toArray, List.getElem_cons_zero, List.getElem_cons_succ]
  refine wpAnyH_take (i := 19) (v := ?v19) rfl (by kernel_rfl) (by kernel_rfl) (by kernel_rfl) (fun _ _ _ h => h) (Or.inl ⟨by rfl, ?hy19⟩) hHeld ?rest19
  case hy19 =>
    intro w hSw
    go_simp
    try with_reducible rfl
  try simp only [Act.put, List.setIfInBounds_toArray, List.set_cons_zero, List.set_cons_succ, Array.toArray_toList, List.getElem_toArray, List.getElem_cons_zero, List.getElem_cons_succ]
  refine wpAnyH_take (i := 16) (v := ?v16) rfl (by kernel_rfl) (by kernel_rfl) (by kernel_rfl) (fun _ _ _ h => h) (Or.inl ⟨by rfl, ?hy16⟩) hHeld ?rest16
  case hy16 =>
    intro w hSw
    go_simp
    try with_reducible rfl
  try simp only [Act.put, List.setIfInBounds_toArray, List.set_cons_zero, List.set_cons_succ, Array.toArray_toList, List.getElem_toArray, List.getElem_cons_zero, List.getElem_cons_succ]
  refine wpAnyH_take (i := 17) (v := ?v17) rfl (by kernel_rfl) (by kernel_rfl) (by kernel_rfl) (fun _ _ _ h => h) (Or.inl ⟨by rfl, ?hy17⟩) hHeld ?rest17
  case hy17 =>
    intro w hSw
    go_simp
    try with_reducible rfl
  try simp only [Act.put, List.setIfInBounds_toArray, List.set_cons_zero, List.set_cons_succ, Array.toArray_toList, List.getElem_toArray, List.getElem_cons_zero, List.getElem_cons_succ]
  refine wpAnyH_take (i := 20) (v := ?v20) rfl (by kernel_rfl) (by kernel_rfl) (by kernel_rfl) (fun _ _ _ h => h) (Or.inl ⟨by rfl, ?hy20⟩) hHeld ?rest20
  case hy20 =>
    intro w hSw
    go_simp
    try with_reducible rfl
  try simp only [Act.put, List.setIfInBounds_toArray, List.set_cons_zero, List.set_cons_succ, Array.toArray_toList, List.getElem_toArray, List.getElem_cons_zero, List.getElem_cons_succ]
  refine wpAnyH_take (i := 21) (v := ?v21) rfl (by kernel_rfl) (by kernel_rfl) (by kernel_rfl) (fun _ _ _ h => h) (Or.inl ⟨by rfl, ?hy21⟩) hHeld ?rest21
  case hy21 =>
    intro w hSw
    have hc := H7.out w hSw.1
    go_simp
    try with_reducible rfl
  try simp only [Act.put, List.setIfInBounds_toArray, List.set_cons_zero, List.set_cons_succ, Array.toArray_toList, List.getElem_toArray, List.getElem_cons_zero, List.getElem_cons_succ]
  refine wpAnyH_take (i := 22) (v := ?v22) rfl (by kernel_rfl) (by kernel_rfl) (by kernel_rfl) (fun _ _ _ h => h) (Or.inl ⟨by rfl, ?hy22⟩) hHeld ?rest22
  case hy22 =>
    intro w hSw
    go_simp
    try with_reducible rfl
  try simp only [Act.put, List.setIfInBounds_toArray, List.set_cons_zero, List.set_cons_succ, Array.toArray_toList, List.getElem_toArray, List.getElem_cons_zero, List.getElem_cons_succ]
  refine wpAnyH_take (i := 23) (v := ?v23) rfl (by kernel_rfl) (by kernel_rfl) (by kernel_rfl) (fun _ _ _ h => h) (Or.inl ⟨by rfl, ?hy23⟩) hHeld ?rest23
  case hy23 =>
    intro w hSw
    go_simp
    try with_reducible rfl
  try simp only [Act.put, List.setIfInBounds_toArray, List.set_cons_zero, List.set_cons_succ, Array.toArray_toList, List.getElem_toArray, List.getElem_cons_zero, List.getElem_cons_succ]
  refine wpAnyH_take (i := 24) (v := ?v24) rfl (by kernel_rfl) (by kernel_rfl) (by kernel_rfl) (fun _ _ _ h => h) (Or.inl ⟨by rfl, ?hy24⟩) hHeld ?rest24
  case hy24 =>
    intro w hSw
    go_simp
    try with_reducible rfl
  try simp only [Act.put, List.setIfInBounds_toArray, List.set_cons_zero, List.set_cons_succ, Array.toArray_toList, List.getElem_toArray, List.getElem_cons_zero, List.getElem_cons_succ]
  refine wpAnyH_take (i := 25) rfl (by kernel_rfl) (by kernel_rfl) (by kernel_rfl) (fun _ _ _ h => h) (yieldsIf_load_mid (by rfl) _ _ rfl _ _ rfl _ _ (fun w h => h.2.1) u24 rfl ia) hHeld ?_
  try simp only [Act.put, List.setIfInBounds_toArray, List.set_cons_zero, List.set_cons_succ, Array.toArray_toList, List.getElem_toArray, List.getElem_cons_zero, List.getElem_cons_succ]
  refine wpAnyH_take (i := 26) rfl (by kernel_rfl) (by kernel_rfl) (by kernel_rfl) (fun _ _ _ h => h) (yieldsIf_load_mid (by rfl) _ _ rfl _ _ rfl _ _ (fun w h => h.2.2) u24 rfl ib) hHeld ?_
  try simp only [Act.put, List.setIfInBounds_toArray, List.set_cons_zero, List.set_cons_succ, Array.toArray_toList, List.getElem_toArray, List.getElem_cons_zero, List.getElem_cons_succ]
  refine wpAnyH_take (i := 28) rfl (by kernel_rfl) (by kernel_rfl) (by kernel_rfl) (fun _ _ _ h => h) (yieldsIf_load_mid (by rfl) _ _ rfl _ _ rfl _ _ (fun w h => h.2.1) u24 rfl ia) hHeld ?_
  try simp only [Act.put, List.setIfInBounds_toArray, List.set_cons_zero, List.set_cons_succ, Array.toArray_toList, List.getElem_toArray, List.getElem_cons_zero, List.getElem_cons_succ]
  refine wpAnyH_take (i := 29) rfl (by kernel_rfl) (by kernel_rfl) (by kernel_rfl) (fun _ _ _ h => h) (yieldsIf_load_mid (by rfl) _ _ rfl _ _ rfl _ _ (fun w h => h.2.2) u24 rfl ib) hHeld ?_
  try simp only [Act.put, List.setIfInBounds_toArray, List.set_cons_zero, List.set_cons_succ, Array.toArray_toList, List.getElem_toArray, List.getElem_cons_zero, List.getElem_cons_succ]
  refine wpAnyH_ready (rs := [27]) (by kernel_rfl) (by simp) ?_
  refine AllReadyH.cons rfl (fun K hK => ?_) AllReadyH.nil
  go_simp
  refine (HT1.out _ hb5).mono ?_
  rintro e w6 ⟨rfl, hb6⟩
  dsimp only
  refine hK.out _ _ (HKEEP.out _ hb6) (fun hHeld => ?_)
  clear hK K
  try simp only [Act.put, List.setIfInBounds_toArray, List.set_cons_zero, List.set_cons_succ, Array.toArray_toList, List.getElem_toArray, List.getElem_cons_zero, List.getElem_cons_succ]
  refine wpAnyH_ready (rs := [30]) (by kernel_rfl) (by simp) ?_
  refine AllReadyH.cons rfl (fun K hK => ?_) AllReadyH.nil
  go_simp
  refine (HT2.out _ hb6).mono ?_
  rintro e w7 ⟨rfl, hb7⟩
  dsimp only
  refine hK.out _ _ (HKEEP.out _ hb7) (fun hHeld => ?_)
  clear hK K
  try simp only [Act.put, List.setIfInBounds_toArray, List.set_cons_zero, List.set_cons_succ, Array.toArray_toList, List.getElem_toArray, List.getElem_cons_zero, List.getElem_cons_succ]
  refine wpAnyH_take (i := 31) (v := ?v31) rfl (by kernel_rfl) (by kernel_rfl) (by kernel_rfl) (fun _ _ _ h => h) (Or.inl ⟨by rfl, ?hy31⟩) hHeld ?rest31
  case hy31 =>
    intro w hSw
    go_simp
    try with_reducible rfl
  try simp only [Act.put, List.setIfInBounds_toArray, List.set_cons_zero, List.set_cons_succ, Array.toArray_toList, List.getElem_toArray, List.getElem_cons_zero, List.getElem_cons_succ]
  refine wpAnyH_take (i := 32) (v := ?v32) rfl (by kernel_rfl) (by kernel_rfl) (by kernel_rfl) (fun _ _ _ h => h) (Or.inl ⟨by rfl, ?hy32⟩) hHeld ?rest32
  case hy32 =>
    intro w hSw
    go_simp
    try with_reducible rfl
  try simp only [Act.put, List.setIfInBounds_toArray, List.set_cons_zero, List.set_cons_succ, Array.toArray_toList, List.getElem_toArray, List.getElem_cons_zero, List.getElem_cons_succ]
  refine wpAnyH_take (i := 33) (v := ?v33) rfl (by kernel_rfl) (by kernel_rfl) (by kernel_rfl) (fun _ _ _ h => h) (Or.inl ⟨by rfl, ?hy33⟩) hHeld ?rest33
  case hy33 =>
    intro w hSw
    go_simp
    try with_reducible rfl
  try simp only [Act.put, List.setIfInBounds_toArray, List.set_cons_zero, List.set_cons_succ, Array.toArray_toList, List.getElem_toArray, List.getElem_cons_zero, List.getElem_cons_succ]
  refine wpAnyH_done (by kernel_rfl) ?_ _
  refine NoPanic.normal ?_
  go_wp2
  go_ret
  exact ⟨rfl, HBW.out _ hb7⟩

end Go.Proofs.YtgbmjlckaplocaaDoor
