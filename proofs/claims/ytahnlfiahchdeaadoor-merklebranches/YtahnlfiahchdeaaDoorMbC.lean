/-
  What MerkleBranches answers where there is a branch.
-/
import Derived.Test.YtahnlfiahchdeaaDoorMbB
import Derived.Test.YtahnlfiahchdeaaDoorMkY
namespace Go.Proofs.YtahnlfiahchdeaaDoor
open Go.RowKit
set_option linter.unusedVariables false
set_option linter.unusedSimpArgs false

attribute [local go_sem ↓] sv24_eq lv24_eq ix22_eq slr_eq lv48_eq sv48_eq bd48_eq bd27_eq bs22_eq sl22_eq mk22_eq eqo_eq neo_eq

set_option maxRecDepth 20000 in
set_option maxHeartbeats 2000000 in
theorem branches_coreIn (a : Option Addr) (len cap D I : Nat) (BR T L xx : Nat → Int) (V : Bool) (V2 : Nat → Bool) (m jj : Int) (w : World) (hI : I ≤ 1099511627776) (hD : D ≤ 40) (hj1 : jj ≤ 9223372036854775807) (b o : Nat) (hil : I < len) (hix : ∀ W : World, (ix22 (.slice a len cap) (.int .i64 I)).run Tryd.prog W = .ok (.pointer (some ⟨b, o, none⟩)) W) (hLC : ∀ W, Below w.heap.size w W → (lv24 ⟨b, o, none⟩).run Tryd.prog W = .ok (.agg (vs .u8 32 L)) W)
    (haw : Ans w 9 #[] (.bool true)) (hBr : ∀ W, Below w.heap.size w W → Calls Tryd.prog 19 #[.slice a len cap, .int .i64 m, .int .i64 I] W fun e w' => ∃ a' cap', e = .returned (.tuple #[.slice a' D cap', .int .i64 0]) ∧ Below W.heap.size W w' ∧ Rts w' a' D cap' BR) (hRBr : ∀ W, Below w.heap.size w W → Calls Tryd.prog 20 #[.slice a len cap, .int .i64 m, .int .i64 I] W fun e w' => ∃ a' cap', e = .returned (.tuple #[.slice a' D cap', .int .i64 0]) ∧ Below W.heap.size W w' ∧ Rts w' a' D cap' BR)
    (hSm : ∀ W a1 c1 a2 c2, Rts W a1 D c1 BR → Rts W a2 D c2 BR → Calls Tryd.prog 12 #[.slice a1 D c1, .slice a2 D c2] W fun e w' => e = .returned (.bool true) ∧ Below W.heap.size W w')
    (hT : Ans w 10 #[.slice a len cap, .int .i64 m] (.tuple #[.agg (vs .u8 32 T), .int .i64 0]))
    (hH1 : ∀ W a' c', Below w.heap.size w W → Rts W a' D c' BR → Calls Tryd.prog 21 #[.agg (vs .u8 32 L), .slice a' D c', .int .u64 I, .agg (vs .u8 32 T)] W fun e w' => e = .returned (.bool true) ∧ Below W.heap.size W w')
    (hHx : ∀ W a' c', Below w.heap.size w W → Rts W a' D c' BR → Calls Tryd.prog 21 #[.agg (vs .u8 32 xx), .slice a' D c', .int .u64 I, .agg (vs .u8 32 T)] W fun e w' => e = .returned (.bool V) ∧ Below W.heap.size W w') (hRHx : ∀ W a' c', Below w.heap.size w W → Rts W a' D c' BR → Calls Tryd.prog 22 #[.agg (vs .u8 32 xx), .slice a' D c', .int .u64 I, .agg (vs .u8 32 T)] W fun e w' => e = .returned (.bool V) ∧ Below W.heap.size W w')
    (hHj : ∀ J : Nat, jj = (J : Int) → ∀ W a' c', Below w.heap.size w W → Rts W a' D c' BR → Calls Tryd.prog 21 #[.agg (vs .u8 32 L), .slice a' D c', .int .u64 J, .agg (vs .u8 32 T)] W fun e w' => e = .returned (.bool (V2 J)) ∧ Below W.heap.size W w') (hRHj : ∀ J : Nat, jj = (J : Int) → ∀ W a' c', Below w.heap.size w W → Rts W a' D c' BR → Calls Tryd.prog 22 #[.agg (vs .u8 32 L), .slice a' D c', .int .u64 J, .agg (vs .u8 32 T)] W fun e w' => e = .returned (.bool (V2 J)) ∧ Below W.heap.size W w') :
    Calls Tryd.prog 4 #[.slice a len cap, .int .i64 m, .int .i64 I, .int .i64 jj, .agg (vs .u8 32 xx)] w fun e w' => e = .returned (.bool true) ∧ Below w.heap.size w w' := by
  have HAW := hid haw
  have HBR := hid hBr
  have HRBR := hid hRBr
  have HSM := hid hSm
  have HT := hid hT
  have HH1 := hid hH1
  have HHX := hid hHx
  have HRHX := hid hRHx
  have HHJ0 := hid hHj
  have HRHJ0 := hid hRHj
  clear haw hBr hRBr hSm hT hH1 hHx hRHx hHj hRHj
  have z := zero_root
  have b27 := bd27_0
  have v1 := fun W => sv24_newv W (fun _ => 0) T
  have wI : IntKind.u64.wrap (I : Int) = (I : Int) := by rw [IntKind.wrap_u64]; omega
  have v2 := fun W => sv24_newv W (fun _ => 0) (fun _ => 0)
  have HLC := hid hLC
  clear hLC
  have d1 : decide (I < len) = true := by simp; omega
  have d2 : decide ((I : Int) < (len : Int)) = true := by simp; omega
  go_enter Tryd.func4, Tryd.ntmps4
  go_upto_region 1 with fail
  obtain ⟨W0, hW0⟩ : ∃ W, w.alloc (.cells (vs .u8 32 xx) 27) = W := ⟨_, rfl⟩
  rw [hW0]
  have hB0 : Below w.heap.size w W0 := by rw [← hW0]; exact (Below.refl _ _).alloc (Nat.le_refl _) _
  have r1 : W0.heap[w.heap.size]? = some (.cells (vs .u8 32 xx) 27) := by rw [← hW0]; exact heap_new rfl
  have t1 : w.heap.size < W0.heap.size := by rw [← hW0]; simp
  obtain ⟨y1, ey1⟩ : ∃ y, w.heap.size = y := ⟨_, rfl⟩
  have HB0 := hid hB0
  rw [ey1] at r1 t1 ⊢
  have R1 := hid r1
  have EY := hid ey1
  clear hB0 r1 hW0 ey1
  go_upto_region 3 with (go_at_call 9; refine (HAW.out _ HB0.out).mono ?_; rintro e w2 ⟨rfl, hb2⟩)
  have hs2 := hb2.size
  have hB2 := HB0.out.trans (hb2.mono HB0.out.size)
  have r1' := (hb2.block y1 (by have := t1; omega)).trans R1.out
  have t1' : y1 < w2.heap.size := by omega
  clear t1
  have t1 := t1'
  clear t1'
  clear HB0
  clear R1
  have R1 := hid r1'
  clear r1'
  have HB2 := hid hB2
  clear hB2 hb2 hs2
  go_upto_region 4 with (go_at_call 19; refine (HBR.out _ HB2.out).mono ?_; rintro e w3 ⟨al, cl, rfl, hb3, hrl⟩)
  have HRL := hid hrl
  clear hrl
  have hs3 := hb3.size
  have hB3 := HB2.out.trans (hb3.mono HB2.out.size)
  have r1' := (hb3.block y1 (by have := t1; omega)).trans R1.out
  have t1' : y1 < w3.heap.size := by omega
  clear t1
  have t1 := t1'
  clear t1'
  clear HB2
  clear R1
  have R1 := hid r1'
  clear r1'
  have HB3 := hid hB3
  clear hB3 hb3 hs3
  go_upto_region 5 with (go_at_call 20; refine (HRBR.out _ HB3.out).mono ?_; rintro e w4 ⟨ak, ck, rfl, hb4, hrk⟩)
  have hrl4 := HRL.out.below hb4
  clear HRL
  have HRL := hid hrl4
  have HRK := hid hrk
  clear hrl4 hrk
  have hs4 := hb4.size
  have hB4 := HB3.out.trans (hb4.mono HB3.out.size)
  have r1' := (hb4.block y1 (by have := t1; omega)).trans R1.out
  have t1' : y1 < w4.heap.size := by omega
  clear t1
  have t1 := t1'
  clear t1'
  clear HB3
  clear R1
  have R1 := hid r1'
  clear r1'
  have HB4 := hid hB4
  clear hB4 hb4 hs4
  go_upto_region 7 with (go_at_call 12; refine (HSM.out _ _ _ _ _ HRL.out HRK.out).mono ?_; rintro e w12 ⟨rfl, hb12⟩)
  have hrl4 := HRL.out.below hb12
  clear HRL HRK
  have HRL := hid hrl4
  clear hrl4
  have hs12 := hb12.size
  have hB12 := HB4.out.trans (hb12.mono HB4.out.size)
  have r1' := (hb12.block y1 (by have := t1; omega)).trans R1.out
  have t1' : y1 < w12.heap.size := by omega
  clear t1
  have t1 := t1'
  clear t1'
  clear HB4
  clear R1
  have R1 := hid r1'
  clear r1'
  have HB12 := hid hB12
  clear hB12 hb12 hs12
  go_upto_region 10 with (go_at_call 10; refine (HT.out _ HB12.out).mono ?_; rintro e w5 ⟨rfl, hb5⟩)
  have hrl5 := HRL.out.below (hb5.alloc hb5.size (.cells (vs .u8 32 T) 27))
  obtain ⟨W5, hW5, hB5, hC5, r5, s5, t5⟩ := stow HB12.out hb5 T
  rw [hW5] at hrl5 ⊢
  obtain ⟨y5, ey5⟩ : ∃ y, w5.heap.size = y := ⟨_, rfl⟩
  rw [ey5] at r5 s5 t5 ⊢
  have r1' := (hC5.block y1 (by have := t1; omega)).trans R1.out
  have t1' : y1 < W5.heap.size := by omega
  clear t1
  have t1 := t1'
  clear t1'
  clear HB12
  clear R1
  have R1 := hid r1'
  clear r1'
  have R5 := hid r5
  have HB5 := hid hB5
  clear HRL
  have HRL := hid hrl5
  clear hrl5
  clear r5 hB5 hC5 hW5 ey5 hb5 s5
  go_upto_region 11 with fail
  obtain ⟨W6, hW6⟩ : ∃ W, W5.alloc (.cells (vs .u8 32 fun _ => 0) 27) = W := ⟨_, rfl⟩
  rw [hW6]
  have hb6 : Below W5.heap.size W5 W6 := by rw [← hW6]; exact (Below.refl _ _).alloc (Nat.le_refl _) _
  have r6 : W6.heap[W5.heap.size]? = some (.cells (vs .u8 32 fun _ => 0) 27) := by rw [← hW6]; exact heap_new rfl
  obtain ⟨y6, ey6⟩ : ∃ y, W5.heap.size = y := ⟨_, rfl⟩
  have hB6 := HB5.out.trans (hb6.mono HB5.out.size)
  rw [ey6] at r6 ⊢
  have lc := HLC.out _ hB6
  have sv6 := sv24_run r6 L
  go_upto_region 13 with fail
  clear lc sv6
  obtain ⟨w7, hw7⟩ : ∃ W, W6.setRow y6 (vs .u8 32 L) = W := ⟨_, rfl⟩
  rw [hw7]
  have r7 : w7.heap[y6]? = some (.cells (vs .u8 32 L) 27) := by rw [← hw7]; exact setRow_at r6
  have hb7 : Below W5.heap.size W5 w7 := by rw [← hw7]; exact below_row hb6 (by omega) _
  clear hw7
  have t6 : y6 < w7.heap.size := (Array.getElem?_eq_some_iff.1 r7).1
  have R6 := hid r7
  have hrl7 := HRL.out.below hb7
  clear HRL r7 r6 hW6 hb6 hB6 ey6
  have HRL := hid hrl7
  clear hrl7
  have hs7 := hb7.size
  have hB7 := HB5.out.trans (hb7.mono HB5.out.size)
  have r1' := (hb7.block y1 (by have := t1; omega)).trans R1.out
  have t1' : y1 < w7.heap.size := by omega
  clear t1
  have t1 := t1'
  clear t1'
  have r5' := (hb7.block y5 (by have := t5; omega)).trans R5.out
  have t5' : y5 < w7.heap.size := by omega
  clear t5
  have t5 := t5'
  clear t5'
  clear HB5
  clear R1
  have R1 := hid r1'
  clear r1'
  clear R5
  have R5 := hid r5'
  clear r5'
  have HB7 := hid hB7
  clear hB7 hb7 hs7
  have l6 := lv24_run R6.out
  have l5 := lv24_run R5.out
  go_upto_region 15 with (go_at_call 21; refine (HH1.out _ _ _ HB7.out HRL.out).mono ?_; rintro e w13 ⟨rfl, hb13⟩)
  clear l6 l5
  have hrl13 := HRL.out.below hb13
  clear HRL
  have HRL := hid hrl13
  clear hrl13
  have hs13 := hb13.size
  have hB13 := HB7.out.trans (hb13.mono HB7.out.size)
  have r1' := (hb13.block y1 (by have := t1; omega)).trans R1.out
  have t1' : y1 < w13.heap.size := by omega
  clear t1
  have t1 := t1'
  clear t1'
  have r5' := (hb13.block y5 (by have := t5; omega)).trans R5.out
  have t5' : y5 < w13.heap.size := by omega
  clear t5
  have t5 := t5'
  clear t5'
  have r6' := (hb13.block y6 (by have := t6; omega)).trans R6.out
  have t6' : y6 < w13.heap.size := by omega
  clear t6
  have t6 := t6'
  clear t6'
  clear HB7
  clear R1
  have R1 := hid r1'
  clear r1'
  clear R5
  have R5 := hid r5'
  clear r5'
  clear R6
  have R6 := hid r6'
  clear r6'
  have HB13 := hid hB13
  clear hB13 hb13 hs13
  obtain ⟨w7, ew7⟩ : ∃ x, w13 = x := ⟨_, rfl⟩
  rw [ew7] at HRL HB13 R1 R5 R6 t1 t5 t6 ⊢
  have HB7 := hid HB13.out
  clear HB13 ew7
  have hl9 : ∀ W, Below w7.heap.size w7 W → (lv24 ⟨y1, 0, none⟩).run Tryd.prog W = .ok (.agg (vs .u8 32 xx)) W := fun W h => lv24_run ((h.block _ t1).trans R1.out)
  have L9 := hid hl9
  clear hl9
  have hl5 : ∀ W, Below w7.heap.size w7 W → (lv24 ⟨y5, 0, none⟩).run Tryd.prog W = .ok (.agg (vs .u8 32 T)) W := fun W h => lv24_run ((h.block _ t5).trans R5.out)
  have L5 := hid hl5
  clear hl5
  have hdr : Below w7.heap.size w7 w7.drew := (Below.refl _ _).drew
  have HDR := hid hdr
  clear hdr
  refine wp_region_noPanic ?_
  refine wp_region_held_drew (S := fun W => Below w7.heap.size w7 W) (by kernel_rfl) (HDR.out) (fun hHeld => ?_)
  refine wpAnyH_take (i := 0) (v := ?v1) rfl (by kernel_rfl) (by kernel_rfl) (by kernel_rfl) (fun _ _ _ h => h) (Or.inl ⟨by rfl, ?hy1⟩) hHeld ?rest1
  case hy1 =>
    intro w hSw
    have ld := L9.out _ hSw
    go_simp
    try with_reducible rfl
  try simp only [Act.put, List.setIfInBounds_toArray, List.set_cons_zero, List.set_cons_succ, Array.toArray_toList, List.getElem_toArray, List.getElem_cons_zero, List.getElem_cons_succ]
  refine wpAnyH_take (i := 1) (v := ?v2) rfl (by kernel_rfl) (by kernel_rfl) (by kernel_rfl) (fun _ _ _ h => h) (Or.inl ⟨by rfl, ?hy2⟩) hHeld ?rest2
  case hy2 =>
    intro w hSw
    go_simp
    try with_reducible rfl
  try simp only [Act.put, List.setIfInBounds_toArray, List.set_cons_zero, List.set_cons_succ, Array.toArray_toList, List.getElem_toArray, List.getElem_cons_zero, List.getElem_cons_succ]
  refine wpAnyH_take (i := 2) (v := ?v3) rfl (by kernel_rfl) (by kernel_rfl) (by kernel_rfl) (fun _ _ _ h => h) (Or.inl ⟨by rfl, ?hy3⟩) hHeld ?rest3
  case hy3 =>
    intro w hSw
    go_simp
    try with_reducible rfl
  try simp only [Act.put, List.setIfInBounds_toArray, List.set_cons_zero, List.set_cons_succ, Array.toArray_toList, List.getElem_toArray, List.getElem_cons_zero, List.getElem_cons_succ]
  refine wpAnyH_take (i := 3) (v := ?v4) rfl (by kernel_rfl) (by kernel_rfl) (by kernel_rfl) (fun _ _ _ h => h) (Or.inl ⟨by rfl, ?hy4⟩) hHeld ?rest4
  case hy4 =>
    intro w hSw
    go_simp
    try with_reducible rfl
  try simp only [Act.put, List.setIfInBounds_toArray, List.set_cons_zero, List.set_cons_succ, Array.toArray_toList, List.getElem_toArray, List.getElem_cons_zero, List.getElem_cons_succ]
  refine wpAnyH_take (i := 4) (v := ?v5) rfl (by kernel_rfl) (by kernel_rfl) (by kernel_rfl) (fun _ _ _ h => h) (Or.inl ⟨by rfl, ?hy5⟩) hHeld ?rest5
  case hy5 =>
    intro w hSw
    have ld := L5.out _ hSw
    go_simp
    try with_reducible rfl
  try simp only [Act.put, List.setIfInBounds_toArray, List.set_cons_zero, List.set_cons_succ, Array.toArray_toList, List.getElem_toArray, List.getElem_cons_zero, List.getElem_cons_succ]
  refine wpAnyH_take (i := 6) (v := ?v6) rfl (by kernel_rfl) (by kernel_rfl) (by kernel_rfl) (fun _ _ _ h => h) (Or.inl ⟨by rfl, ?hy6⟩) hHeld ?rest6
  case hy6 =>
    intro w hSw
    have ld := L9.out _ hSw
    go_simp
    try with_reducible rfl
  try simp only [Act.put, List.setIfInBounds_toArray, List.set_cons_zero, List.set_cons_succ, Array.toArray_toList, List.getElem_toArray, List.getElem_cons_zero, List.getElem_cons_succ]
  refine wpAnyH_take (i := 7) (v := ?v7) rfl (by kernel_rfl) (by kernel_rfl) (by kernel_rfl) (fun _ _ _ h => h) (Or.inl ⟨by rfl, ?hy7⟩) hHeld ?rest7
  case hy7 =>
    intro w hSw
    go_simp
    try with_reducible rfl
  try simp only [Act.put, List.setIfInBounds_toArray, List.set_cons_zero, List.set_cons_succ, Array.toArray_toList, List.getElem_toArray, List.getElem_cons_zero, List.getElem_cons_succ]
  refine wpAnyH_take (i := 8) (v := ?v8) rfl (by kernel_rfl) (by kernel_rfl) (by kernel_rfl) (fun _ _ _ h => h) (Or.inl ⟨by rfl, ?hy8⟩) hHeld ?rest8
  case hy8 =>
    intro w hSw
    go_simp
    try with_reducible rfl
  try simp only [Act.put, List.setIfInBounds_toArray, List.set_cons_zero, List.set_cons_succ, Array.toArray_toList, List.getElem_toArray, List.getElem_cons_zero, List.getElem_cons_succ]
  refine wpAnyH_take (i := 9) (v := ?v9) rfl (by kernel_rfl) (by kernel_rfl) (by kernel_rfl) (fun _ _ _ h => h) (Or.inl ⟨by rfl, ?hy9⟩) hHeld ?rest9
  case hy9 =>
    intro w hSw
    go_simp
    try with_reducible rfl
  try simp only [Act.put, List.setIfInBounds_toArray, List.set_cons_zero, List.set_cons_succ, Array.toArray_toList, List.getElem_toArray, List.getElem_cons_zero, List.getElem_cons_succ]
  refine wpAnyH_take (i := 10) (v := ?v10) rfl (by kernel_rfl) (by kernel_rfl) (by kernel_rfl) (fun _ _ _ h => h) (Or.inl ⟨by rfl, ?hy10⟩) hHeld ?rest10
  case hy10 =>
    intro w hSw
    have ld := L5.out _ hSw
    go_simp
    try with_reducible rfl
  try simp only [Act.put, List.setIfInBounds_toArray, List.set_cons_zero, List.set_cons_succ, Array.toArray_toList, List.getElem_toArray, List.getElem_cons_zero, List.getElem_cons_succ]
  refine wpAnyH_ready (rs := [5]) (by kernel_rfl) (by simp) ?_
  refine AllReadyH.cons rfl (fun K hK => ?_) AllReadyH.nil
  go_simp
  refine (HHX.out _ _ _ HB7.out.drew (HRL.out.below HDR.out)).mono ?_
  rintro e w8 ⟨rfl, hb8'⟩
  dsimp only
  have hb8 : Below w7.heap.size w7 w8 := HDR.out.trans hb8'
  have B8 := HB7.out.trans (hb8.mono HB7.out.size)
  refine hK.out _ _ (hb8) (fun hHeld => ?_)
  clear hK K
  try simp only [Act.put, List.setIfInBounds_toArray, List.set_cons_zero, List.set_cons_succ, Array.toArray_toList, List.getElem_toArray, List.getElem_cons_zero, List.getElem_cons_succ]
  refine wpAnyH_ready (rs := [11]) (by kernel_rfl) (by simp) ?_
  refine AllReadyH.cons rfl (fun K hK => ?_) AllReadyH.nil
  go_simp
  refine (HRHX.out _ _ _ B8 (HRL.out.below hb8)).mono ?_
  rintro e w9 ⟨rfl, hb9'⟩
  dsimp only
  have hb9 : Below w7.heap.size w7 w9 := hb8.trans (hb9'.mono hb8.size)
  refine hK.out _ _ (hb9) (fun hHeld => ?_)
  clear hK K
  try simp only [Act.put, List.setIfInBounds_toArray, List.set_cons_zero, List.set_cons_succ, Array.toArray_toList, List.getElem_toArray, List.getElem_cons_zero, List.getElem_cons_succ]
  refine wpAnyH_take (i := 12) (v := ?v11) rfl (by kernel_rfl) (by kernel_rfl) (by kernel_rfl) (fun _ _ _ h => h) (Or.inl ⟨by rfl, ?hy11⟩) hHeld ?rest11
  case hy11 =>
    intro w hSw
    go_simp
    try with_reducible rfl
  try simp only [Act.put, List.setIfInBounds_toArray, List.set_cons_zero, List.set_cons_succ, Array.toArray_toList, List.getElem_toArray, List.getElem_cons_zero, List.getElem_cons_succ]
  refine wpAnyH_done (by kernel_rfl) ?_ _
  refine NoPanic.normal ?_
  clear HDR L9 L5 hHeld hb8' hb9' B8 hb8
  have hrl9 := HRL.out.below hb9
  clear HRL
  have HRL := hid hrl9
  clear hrl9
  have hs9 := hb9.size
  have hB9 := HB7.out.trans (hb9.mono HB7.out.size)
  have r1' := (hb9.block y1 (by have := t1; omega)).trans R1.out
  have t1' : y1 < w9.heap.size := by omega
  clear t1
  have t1 := t1'
  clear t1'
  have r5' := (hb9.block y5 (by have := t5; omega)).trans R5.out
  have t5' : y5 < w9.heap.size := by omega
  clear t5
  have t5 := t5'
  clear t5'
  have r6' := (hb9.block y6 (by have := t6; omega)).trans R6.out
  have t6' : y6 < w9.heap.size := by omega
  clear t6
  have t6 := t6'
  clear t6'
  clear HB7
  clear R1
  have R1 := hid r1'
  clear r1'
  clear R5
  have R5 := hid r5'
  clear r5'
  clear R6
  have R6 := hid r6'
  clear r6'
  have HB9 := hid hB9
  clear hB9 hb9 hs9
  by_cases hj : jj < 0
  · have j1 : decide (jj < 0) = true := by simp; omega
    go_wp2
    go_ret
    exact ⟨rfl, HB9.out⟩
  · have j1 : decide (jj < 0) = false := by simp; omega
    by_cases hd0 : D = 0
    · have j2 : ((D : Int) == 0) = true := by simp; omega
      have j3 : (D == 0) = true := by simp; omega
      go_wp2
      go_ret
      exact ⟨rfl, HB9.out⟩
    · have j2 : ((D : Int) == 0) = false := by simp; omega
      have j3 : (D == 0) = false := by simp; omega
      obtain ⟨J, rfl⟩ : ∃ J : Nat, jj = (J : Int) := ⟨jj.toNat, by omega⟩
      have wJ : IntKind.u64.wrap (J : Int) = (J : Int) := by rw [IntKind.wrap_u64]; omega
      have hhj := HHJ0.out J rfl
      have hrhj := HRHJ0.out J rfl
      have HHJ := hid hhj
      have HRHJ := hid hrhj
      clear hhj hrhj HHJ0 HRHJ0
      go_upto_region 19 with fail
      have hl6 : ∀ W, Below w9.heap.size w9 W → (lv24 ⟨y6, 0, none⟩).run Tryd.prog W = .ok (.agg (vs .u8 32 L)) W := fun W h => lv24_run ((h.block _ t6).trans R6.out)
      have L6 := hid hl6
      clear hl6
      have hl5 : ∀ W, Below w9.heap.size w9 W → (lv24 ⟨y5, 0, none⟩).run Tryd.prog W = .ok (.agg (vs .u8 32 T)) W := fun W h => lv24_run ((h.block _ t5).trans R5.out)
      have L5 := hid hl5
      clear hl5
      have hdr : Below w9.heap.size w9 w9.drew := (Below.refl _ _).drew
      have HDR := hid hdr
      clear hdr
      refine wp_region_noPanic ?_
      refine wp_region_held_drew (S := fun W => Below w9.heap.size w9 W) (by kernel_rfl) (HDR.out) (fun hHeld => ?_)
      refine wpAnyH_take (i := 0) (v := ?v12) rfl (by kernel_rfl) (by kernel_rfl) (by kernel_rfl) (fun _ _ _ h => h) (Or.inl ⟨by rfl, ?hy12⟩) hHeld ?rest12
      case hy12 =>
        intro w hSw
        have ld := L6.out _ hSw
        go_simp
        try with_reducible rfl
      try simp only [Act.put, List.setIfInBounds_toArray, List.set_cons_zero, List.set_cons_succ, Array.toArray_toList, List.getElem_toArray, List.getElem_cons_zero, List.getElem_cons_succ]
      refine wpAnyH_take (i := 1) (v := ?v13) rfl (by kernel_rfl) (by kernel_rfl) (by kernel_rfl) (fun _ _ _ h => h) (Or.inl ⟨by rfl, ?hy13⟩) hHeld ?rest13
      case hy13 =>
        intro w hSw
        go_simp
        try with_reducible rfl
      try simp only [Act.put, List.setIfInBounds_toArray, List.set_cons_zero, List.set_cons_succ, Array.toArray_toList, List.getElem_toArray, List.getElem_cons_zero, List.getElem_cons_succ]
      refine wpAnyH_take (i := 2) (v := ?v14) rfl (by kernel_rfl) (by kernel_rfl) (by kernel_rfl) (fun _ _ _ h => h) (Or.inl ⟨by rfl, ?hy14⟩) hHeld ?rest14
      case hy14 =>
        intro w hSw
        go_simp
        try with_reducible rfl
      try simp only [Act.put, List.setIfInBounds_toArray, List.set_cons_zero, List.set_cons_succ, Array.toArray_toList, List.getElem_toArray, List.getElem_cons_zero, List.getElem_cons_succ]
      refine wpAnyH_take (i := 3) (v := ?v15) rfl (by kernel_rfl) (by kernel_rfl) (by kernel_rfl) (fun _ _ _ h => h) (Or.inl ⟨by rfl, ?hy15⟩) hHeld ?rest15
      case hy15 =>
        intro w hSw
        go_simp
        try with_reducible rfl
      try simp only [Act.put, List.setIfInBounds_toArray, List.set_cons_zero, List.set_cons_succ, Array.toArray_toList, List.getElem_toArray, List.getElem_cons_zero, List.getElem_cons_succ]
      refine wpAnyH_take (i := 4) (v := ?v16) rfl (by kernel_rfl) (by kernel_rfl) (by kernel_rfl) (fun _ _ _ h => h) (Or.inl ⟨by rfl, ?hy16⟩) hHeld ?rest16
      case hy16 =>
        intro w hSw
        have ld := L5.out _ hSw
        go_simp
        try with_reducible rfl
      try simp only [Act.put, List.setIfInBounds_toArray, List.set_cons_zero, List.set_cons_succ, Array.toArray_toList, List.getElem_toArray, List.getElem_cons_zero, List.getElem_cons_succ]
      refine wpAnyH_take (i := 6) (v := ?v17) rfl (by kernel_rfl) (by kernel_rfl) (by kernel_rfl) (fun _ _ _ h => h) (Or.inl ⟨by rfl, ?hy17⟩) hHeld ?rest17
      case hy17 =>
        intro w hSw
        have ld := L6.out _ hSw
        go_simp
        try with_reducible rfl
      try simp only [Act.put, List.setIfInBounds_toArray, List.set_cons_zero, List.set_cons_succ, Array.toArray_toList, List.getElem_toArray, List.getElem_cons_zero, List.getElem_cons_succ]
      refine wpAnyH_take (i := 7) (v := ?v18) rfl (by kernel_rfl) (by kernel_rfl) (by kernel_rfl) (fun _ _ _ h => h) (Or.inl ⟨by rfl, ?hy18⟩) hHeld ?rest18
      case hy18 =>
        intro w hSw
        go_simp
        try with_reducible rfl
      try simp only [Act.put, List.setIfInBounds_toArray, List.set_cons_zero, List.set_cons_succ, Array.toArray_toList, List.getElem_toArray, List.getElem_cons_zero, List.getElem_cons_succ]
      refine wpAnyH_take (i := 8) (v := ?v19) rfl (by kernel_rfl) (by kernel_rfl) (by kernel_rfl) (fun _ _ _ h => h) (Or.inl ⟨by rfl, ?hy19⟩) hHeld ?rest19
      case hy19 =>
        intro w hSw
        go_simp
        try with_reducible rfl
      try simp only [Act.put, List.setIfInBounds_toArray, List.set_cons_zero, List.set_cons_succ, Array.toArray_toList, List.getElem_toArray, List.getElem_cons_zero, List.getElem_cons_succ]
      refine wpAnyH_take (i := 9) (v := ?v20) rfl (by kernel_rfl) (by kernel_rfl) (by kernel_rfl) (fun _ _ _ h => h) (Or.inl ⟨by rfl, ?hy20⟩) hHeld ?rest20
      case hy20 =>
        intro w hSw
        go_simp
        try with_reducible rfl
      try simp only [Act.put, List.setIfInBounds_toArray, List.set_cons_zero, List.set_cons_succ, Array.toArray_toList, List.getElem_toArray, List.getElem_cons_zero, List.getElem_cons_succ]
      refine wpAnyH_take (i := 10) (v := ?v21) rfl (by kernel_rfl) (by kernel_rfl) (by kernel_rfl) (fun _ _ _ h => h) (Or.inl ⟨by rfl, ?hy21⟩) hHeld ?rest21
      case hy21 =>
        intro w hSw
        have ld := L5.out _ hSw
        go_simp
        try with_reducible rfl
      try simp only [Act.put, List.setIfInBounds_toArray, List.set_cons_zero, List.set_cons_succ, Array.toArray_toList, List.getElem_toArray, List.getElem_cons_zero, List.getElem_cons_succ]
      refine wpAnyH_ready (rs := [5]) (by kernel_rfl) (by simp) ?_
      refine AllReadyH.cons rfl (fun K hK => ?_) AllReadyH.nil
      go_simp
      refine (HHJ.out _ _ _ HB9.out.drew (HRL.out.below HDR.out)).mono ?_
      rintro e w10 ⟨rfl, hb10'⟩
      dsimp only
      have hb10 : Below w9.heap.size w9 w10 := HDR.out.trans hb10'
      have B10 := HB9.out.trans (hb10.mono HB9.out.size)
      refine hK.out _ _ (hb10) (fun hHeld => ?_)
      clear hK K
      try simp only [Act.put, List.setIfInBounds_toArray, List.set_cons_zero, List.set_cons_succ, Array.toArray_toList, List.getElem_toArray, List.getElem_cons_zero, List.getElem_cons_succ]
      refine wpAnyH_ready (rs := [11]) (by kernel_rfl) (by simp) ?_
      refine AllReadyH.cons rfl (fun K hK => ?_) AllReadyH.nil
      go_simp
      refine (HRHJ.out _ _ _ B10 (HRL.out.below hb10)).mono ?_
      rintro e w11 ⟨rfl, hb11'⟩
      dsimp only
      have hb11 : Below w9.heap.size w9 w11 := hb10.trans (hb11'.mono hb10.size)
      refine hK.out _ _ (hb11) (fun hHeld => ?_)
      clear hK K
      try simp only [Act.put, List.setIfInBounds_toArray, List.set_cons_zero, List.set_cons_succ, Array.toArray_toList, List.getElem_toArray, List.getElem_cons_zero, List.getElem_cons_succ]
      refine wpAnyH_take (i := 12) (v := ?v22) rfl (by kernel_rfl) (by kernel_rfl) (by kernel_rfl) (fun _ _ _ h => h) (Or.inl ⟨by rfl, ?hy22⟩) hHeld ?rest22
      case hy22 =>
        intro w hSw
        go_simp
        try with_reducible rfl
      try simp only [Act.put, List.setIfInBounds_toArray, List.set_cons_zero, List.set_cons_succ, Array.toArray_toList, List.getElem_toArray, List.getElem_cons_zero, List.getElem_cons_succ]
      refine wpAnyH_take (i := 13) (v := ?v23) rfl (by kernel_rfl) (by kernel_rfl) (by kernel_rfl) (fun _ _ _ h => h) (Or.inl ⟨by rfl, ?hy23⟩) hHeld ?rest23
      case hy23 =>
        intro w hSw
        go_simp
        try with_reducible rfl
      try simp only [Act.put, List.setIfInBounds_toArray, List.set_cons_zero, List.set_cons_succ, Array.toArray_toList, List.getElem_toArray, List.getElem_cons_zero, List.getElem_cons_succ]
      refine wpAnyH_done (by kernel_rfl) ?_ _
      refine NoPanic.normal ?_
      go_wp2
      go_ret
      exact ⟨rfl, HB9.out.trans (hb11.mono HB9.out.size)⟩

set_option maxRecDepth 20000 in
set_option maxHeartbeats 2000000 in
theorem branches_coreOut (a : Option Addr) (len cap D I : Nat) (BR T L xx : Nat → Int) (V : Bool) (V2 : Nat → Bool) (m jj : Int) (w : World) (hI : I ≤ 1099511627776) (hD : D ≤ 40) (hj1 : jj ≤ 9223372036854775807) (hil : len ≤ I) (hL0 : L = fun _ => 0)
    (haw : Ans w 9 #[] (.bool true)) (hBr : ∀ W, Below w.heap.size w W → Calls Tryd.prog 19 #[.slice a len cap, .int .i64 m, .int .i64 I] W fun e w' => ∃ a' cap', e = .returned (.tuple #[.slice a' D cap', .int .i64 0]) ∧ Below W.heap.size W w' ∧ Rts w' a' D cap' BR) (hRBr : ∀ W, Below w.heap.size w W → Calls Tryd.prog 20 #[.slice a len cap, .int .i64 m, .int .i64 I] W fun e w' => ∃ a' cap', e = .returned (.tuple #[.slice a' D cap', .int .i64 0]) ∧ Below W.heap.size W w' ∧ Rts w' a' D cap' BR)
    (hSm : ∀ W a1 c1 a2 c2, Rts W a1 D c1 BR → Rts W a2 D c2 BR → Calls Tryd.prog 12 #[.slice a1 D c1, .slice a2 D c2] W fun e w' => e = .returned (.bool true) ∧ Below W.heap.size W w')
    (hT : Ans w 10 #[.slice a len cap, .int .i64 m] (.tuple #[.agg (vs .u8 32 T), .int .i64 0]))
    (hH1 : ∀ W a' c', Below w.heap.size w W → Rts W a' D c' BR → Calls Tryd.prog 21 #[.agg (vs .u8 32 L), .slice a' D c', .int .u64 I, .agg (vs .u8 32 T)] W fun e w' => e = .returned (.bool true) ∧ Below W.heap.size W w')
    (hHx : ∀ W a' c', Below w.heap.size w W → Rts W a' D c' BR → Calls Tryd.prog 21 #[.agg (vs .u8 32 xx), .slice a' D c', .int .u64 I, .agg (vs .u8 32 T)] W fun e w' => e = .returned (.bool V) ∧ Below W.heap.size W w') (hRHx : ∀ W a' c', Below w.heap.size w W → Rts W a' D c' BR → Calls Tryd.prog 22 #[.agg (vs .u8 32 xx), .slice a' D c', .int .u64 I, .agg (vs .u8 32 T)] W fun e w' => e = .returned (.bool V) ∧ Below W.heap.size W w')
    (hHj : ∀ J : Nat, jj = (J : Int) → ∀ W a' c', Below w.heap.size w W → Rts W a' D c' BR → Calls Tryd.prog 21 #[.agg (vs .u8 32 L), .slice a' D c', .int .u64 J, .agg (vs .u8 32 T)] W fun e w' => e = .returned (.bool (V2 J)) ∧ Below W.heap.size W w') (hRHj : ∀ J : Nat, jj = (J : Int) → ∀ W a' c', Below w.heap.size w W → Rts W a' D c' BR → Calls Tryd.prog 22 #[.agg (vs .u8 32 L), .slice a' D c', .int .u64 J, .agg (vs .u8 32 T)] W fun e w' => e = .returned (.bool (V2 J)) ∧ Below W.heap.size W w') :
    Calls Tryd.prog 4 #[.slice a len cap, .int .i64 m, .int .i64 I, .int .i64 jj, .agg (vs .u8 32 xx)] w fun e w' => e = .returned (.bool true) ∧ Below w.heap.size w w' := by
  have HAW := hid haw
  have HBR := hid hBr
  have HRBR := hid hRBr
  have HSM := hid hSm
  have HT := hid hT
  have HH1 := hid hH1
  have HHX := hid hHx
  have HRHX := hid hRHx
  have HHJ0 := hid hHj
  have HRHJ0 := hid hRHj
  clear haw hBr hRBr hSm hT hH1 hHx hRHx hHj hRHj
  have z := zero_root
  have b27 := bd27_0
  have v1 := fun W => sv24_newv W (fun _ => 0) T
  have wI : IntKind.u64.wrap (I : Int) = (I : Int) := by rw [IntKind.wrap_u64]; omega
  have v2 := fun W => sv24_newv W (fun _ => 0) (fun _ => 0)
  have HL0 := hid hL0
  clear hL0
  have d1 : decide (I < len) = false := by simp; omega
  have d2 : decide ((I : Int) < (len : Int)) = false := by simp; omega
  go_enter Tryd.func4, Tryd.ntmps4
  go_upto_region 1 with fail
  obtain ⟨W0, hW0⟩ : ∃ W, w.alloc (.cells (vs .u8 32 xx) 27) = W := ⟨_, rfl⟩
  rw [hW0]
  have hB0 : Below w.heap.size w W0 := by rw [← hW0]; exact (Below.refl _ _).alloc (Nat.le_refl _) _
  have r1 : W0.heap[w.heap.size]? = some (.cells (vs .u8 32 xx) 27) := by rw [← hW0]; exact heap_new rfl
  have t1 : w.heap.size < W0.heap.size := by rw [← hW0]; simp
  obtain ⟨y1, ey1⟩ : ∃ y, w.heap.size = y := ⟨_, rfl⟩
  have HB0 := hid hB0
  rw [ey1] at r1 t1 ⊢
  have R1 := hid r1
  have EY := hid ey1
  clear hB0 r1 hW0 ey1
  go_upto_region 3 with (go_at_call 9; refine (HAW.out _ HB0.out).mono ?_; rintro e w2 ⟨rfl, hb2⟩)
  have hs2 := hb2.size
  have hB2 := HB0.out.trans (hb2.mono HB0.out.size)
  have r1' := (hb2.block y1 (by have := t1; omega)).trans R1.out
  have t1' : y1 < w2.heap.size := by omega
  clear t1
  have t1 := t1'
  clear t1'
  clear HB0
  clear R1
  have R1 := hid r1'
  clear r1'
  have HB2 := hid hB2
  clear hB2 hb2 hs2
  go_upto_region 4 with (go_at_call 19; refine (HBR.out _ HB2.out).mono ?_; rintro e w3 ⟨al, cl, rfl, hb3, hrl⟩)
  have HRL := hid hrl
  clear hrl
  have hs3 := hb3.size
  have hB3 := HB2.out.trans (hb3.mono HB2.out.size)
  have r1' := (hb3.block y1 (by have := t1; omega)).trans R1.out
  have t1' : y1 < w3.heap.size := by omega
  clear t1
  have t1 := t1'
  clear t1'
  clear HB2
  clear R1
  have R1 := hid r1'
  clear r1'
  have HB3 := hid hB3
  clear hB3 hb3 hs3
  go_upto_region 5 with (go_at_call 20; refine (HRBR.out _ HB3.out).mono ?_; rintro e w4 ⟨ak, ck, rfl, hb4, hrk⟩)
  have hrl4 := HRL.out.below hb4
  clear HRL
  have HRL := hid hrl4
  have HRK := hid hrk
  clear hrl4 hrk
  have hs4 := hb4.size
  have hB4 := HB3.out.trans (hb4.mono HB3.out.size)
  have r1' := (hb4.block y1 (by have := t1; omega)).trans R1.out
  have t1' : y1 < w4.heap.size := by omega
  clear t1
  have t1 := t1'
  clear t1'
  clear HB3
  clear R1
  have R1 := hid r1'
  clear r1'
  have HB4 := hid hB4
  clear hB4 hb4 hs4
  go_upto_region 7 with (go_at_call 12; refine (HSM.out _ _ _ _ _ HRL.out HRK.out).mono ?_; rintro e w12 ⟨rfl, hb12⟩)
  have hrl4 := HRL.out.below hb12
  clear HRL HRK
  have HRL := hid hrl4
  clear hrl4
  have hs12 := hb12.size
  have hB12 := HB4.out.trans (hb12.mono HB4.out.size)
  have r1' := (hb12.block y1 (by have := t1; omega)).trans R1.out
  have t1' : y1 < w12.heap.size := by omega
  clear t1
  have t1 := t1'
  clear t1'
  clear HB4
  clear R1
  have R1 := hid r1'
  clear r1'
  have HB12 := hid hB12
  clear hB12 hb12 hs12
  go_upto_region 10 with (go_at_call 10; refine (HT.out _ HB12.out).mono ?_; rintro e w5 ⟨rfl, hb5⟩)
  have hrl5 := HRL.out.below (hb5.alloc hb5.size (.cells (vs .u8 32 T) 27))
  obtain ⟨W5, hW5, hB5, hC5, r5, s5, t5⟩ := stow HB12.out hb5 T
  rw [hW5] at hrl5 ⊢
  obtain ⟨y5, ey5⟩ : ∃ y, w5.heap.size = y := ⟨_, rfl⟩
  rw [ey5] at r5 s5 t5 ⊢
  have r1' := (hC5.block y1 (by have := t1; omega)).trans R1.out
  have t1' : y1 < W5.heap.size := by omega
  clear t1
  have t1 := t1'
  clear t1'
  clear HB12
  clear R1
  have R1 := hid r1'
  clear r1'
  have R5 := hid r5
  have HB5 := hid hB5
  clear HRL
  have HRL := hid hrl5
  clear hrl5
  clear r5 hB5 hC5 hW5 ey5 hb5 s5
  go_upto_region 11 with fail
  obtain ⟨W6, hW6⟩ : ∃ W, W5.alloc (.cells (vs .u8 32 fun _ => 0) 27) = W := ⟨_, rfl⟩
  rw [hW6]
  have hb6 : Below W5.heap.size W5 W6 := by rw [← hW6]; exact (Below.refl _ _).alloc (Nat.le_refl _) _
  have r6 : W6.heap[W5.heap.size]? = some (.cells (vs .u8 32 fun _ => 0) 27) := by rw [← hW6]; exact heap_new rfl
  obtain ⟨y6, ey6⟩ : ∃ y, W5.heap.size = y := ⟨_, rfl⟩
  have hB6 := HB5.out.trans (hb6.mono HB5.out.size)
  rw [ey6] at r6 ⊢
  go_upto_region 13 with fail
  obtain ⟨w7, hw7⟩ : ∃ W, W6 = W := ⟨_, rfl⟩
  rw [hw7] at r6 hb6 ⊢
  have r7 : w7.heap[y6]? = some (.cells (vs .u8 32 L) 27) := by rw [HL0.out]; exact r6
  have hb7 : Below W5.heap.size W5 w7 := hb6
  clear hw7
  have t6 : y6 < w7.heap.size := (Array.getElem?_eq_some_iff.1 r7).1
  have R6 := hid r7
  have hrl7 := HRL.out.below hb7
  clear HRL r7 r6 hW6 hb6 hB6 ey6
  have HRL := hid hrl7
  clear hrl7
  have hs7 := hb7.size
  have hB7 := HB5.out.trans (hb7.mono HB5.out.size)
  have r1' := (hb7.block y1 (by have := t1; omega)).trans R1.out
  have t1' : y1 < w7.heap.size := by omega
  clear t1
  have t1 := t1'
  clear t1'
  have r5' := (hb7.block y5 (by have := t5; omega)).trans R5.out
  have t5' : y5 < w7.heap.size := by omega
  clear t5
  have t5 := t5'
  clear t5'
  clear HB5
  clear R1
  have R1 := hid r1'
  clear r1'
  clear R5
  have R5 := hid r5'
  clear r5'
  have HB7 := hid hB7
  clear hB7 hb7 hs7
  have l6 := lv24_run R6.out
  have l5 := lv24_run R5.out
  go_upto_region 15 with (go_at_call 21; refine (HH1.out _ _ _ HB7.out HRL.out).mono ?_; rintro e w13 ⟨rfl, hb13⟩)
  clear l6 l5
  have hrl13 := HRL.out.below hb13
  clear HRL
  have HRL := hid hrl13
  clear hrl13
  have hs13 := hb13.size
  have hB13 := HB7.out.trans (hb13.mono HB7.out.size)
  have r1' := (hb13.block y1 (by have := t1; omega)).trans R1.out
  have t1' : y1 < w13.heap.size := by omega
  clear t1
  have t1 := t1'
  clear t1'
  have r5' := (hb13.block y5 (by have := t5; omega)).trans R5.out
  have t5' : y5 < w13.heap.size := by omega
  clear t5
  have t5 := t5'
  clear t5'
  have r6' := (hb13.block y6 (by have := t6; omega)).trans R6.out
  have t6' : y6 < w13.heap.size := by omega
  clear t6
  have t6 := t6'
  clear t6'
  clear HB7
  clear R1
  have R1 := hid r1'
  clear r1'
  clear R5
  have R5 := hid r5'
  clear r5'
  clear R6
  have R6 := hid r6'
  clear r6'
  have HB13 := hid hB13
  clear hB13 hb13 hs13
  obtain ⟨w7, ew7⟩ : ∃ x, w13 = x := ⟨_, rfl⟩
  rw [ew7] at HRL HB13 R1 R5 R6 t1 t5 t6 ⊢
  have HB7 := hid HB13.out
  clear HB13 ew7
  have hl9 : ∀ W, Below w7.heap.size w7 W → (lv24 ⟨y1, 0, none⟩).run Tryd.prog W = .ok (.agg (vs .u8 32 xx)) W := fun W h => lv24_run ((h.block _ t1).trans R1.out)
  have L9 := hid hl9
  clear hl9
  have hl5 : ∀ W, Below w7.heap.size w7 W → (lv24 ⟨y5, 0, none⟩).run Tryd.prog W = .ok (.agg (vs .u8 32 T)) W := fun W h => lv24_run ((h.block _ t5).trans R5.out)
  have L5 := hid hl5
  clear hl5
  have hdr : Below w7.heap.size w7 w7.drew := (Below.refl _ _).drew
  have HDR := hid hdr
  clear hdr
  refine wp_region_noPanic ?_
  refine wp_region_held_drew (S := fun W => Below w7.heap.size w7 W) (by kernel_rfl) (HDR.out) (fun hHeld => ?_)
  refine wpAnyH_take (i := 0) (v := ?v24) rfl (by kernel_rfl) (by kernel_rfl) (by kernel_rfl) (fun _ _ _ h => h) (Or.inl ⟨by rfl, ?hy24⟩) hHeld ?rest24
  case hy24 =>
    intro w hSw
    have ld := L9.out _ hSw
    go_simp
    try with_reducible rfl
  try simp only [Act.put, List.setIfInBounds_toArray, List.set_cons_zero, List.set_cons_succ, Array.toArray_toList, List.getElem_toArray, List.getElem_cons_zero, List.getElem_cons_succ]
  refine wpAnyH_take (i := 1) (v := ?v25) rfl (by kernel_rfl) (by kernel_rfl) (by kernel_rfl) (fun _ _ _ h => h) (Or.inl ⟨by rfl, ?hy25⟩) hHeld ?rest25
  case hy25 =>
    intro w hSw
    go_simp
    try with_reducible rfl
  try simp only [Act.put, List.setIfInBounds_toArray, List.set_cons_zero, List.set_cons_succ, Array.toArray_toList, List.getElem_toArray, List.getElem_cons_zero, List.getElem_cons_succ]
  refine wpAnyH_take (i := 2) (v := ?v26) rfl (by kernel_rfl) (by kernel_rfl) (by kernel_rfl) (fun _ _ _ h => h) (Or.inl ⟨by rfl, ?hy26⟩) hHeld ?rest26
  case hy26 =>
    intro w hSw
    go_simp
    try with_reducible rfl
  try simp only [Act.put, List.setIfInBounds_toArray, List.set_cons_zero, List.set_cons_succ, Array.toArray_toList, List.getElem_toArray, List.getElem_cons_zero, List.getElem_cons_succ]
  refine wpAnyH_take (i := 3) (v := ?v27) rfl (by kernel_rfl) (by kernel_rfl) (by kernel_rfl) (fun _ _ _ h => h) (Or.inl ⟨by rfl, ?hy27⟩) hHeld ?rest27
  case hy27 =>
    intro w hSw
    go_simp
    try with_reducible rfl
  try simp only [Act.put, List.setIfInBounds_toArray, List.set_cons_zero, List.set_cons_succ, Array.toArray_toList, List.getElem_toArray, List.getElem_cons_zero, List.getElem_cons_succ]
  refine wpAnyH_take (i := 4) (v := ?v28) rfl (by kernel_rfl) (by kernel_rfl) (by kernel_rfl) (fun _ _ _ h => h) (Or.inl ⟨by rfl, ?hy28⟩) hHeld ?rest28
  case hy28 =>
    intro w hSw
    have ld := L5.out _ hSw
    go_simp
    try with_reducible rfl
  try simp only [Act.put, List.setIfInBounds_toArray, List.set_cons_zero, List.set_cons_succ, Array.toArray_toList, List.getElem_toArray, List.getElem_cons_zero, List.getElem_cons_succ]
  refine wpAnyH_take (i := 6) (v := ?v29) rfl (by kernel_rfl) (by kernel_rfl) (by kernel_rfl) (fun _ _ _ h => h) (Or.inl ⟨by rfl, ?hy29⟩) hHeld ?rest29
  case hy29 =>
    intro w hSw
    have ld := L9.out _ hSw
    go_simp
    try with_reducible rfl
  try simp only [Act.put, List.setIfInBounds_toArray, List.set_cons_zero, List.set_cons_succ, Array.toArray_toList, List.getElem_toArray, List.getElem_cons_zero, List.getElem_cons_succ]
  refine wpAnyH_take (i := 7) (v := ?v30) rfl (by kernel_rfl) (by kernel_rfl) (by kernel_rfl) (fun _ _ _ h => h) (Or.inl ⟨by rfl, ?hy30⟩) hHeld ?rest30
  case hy30 =>
    intro w hSw
    go_simp
    try with_reducible rfl
  try simp only [Act.put, List.setIfInBounds_toArray, List.set_cons_zero, List.set_cons_succ, Array.toArray_toList, List.getElem_toArray, List.getElem_cons_zero, List.getElem_cons_succ]
  refine wpAnyH_take (i := 8) (v := ?v31) rfl (by kernel_rfl) (by kernel_rfl) (by kernel_rfl) (fun _ _ _ h => h) (Or.inl ⟨by rfl, ?hy31⟩) hHeld ?rest31
  case hy31 =>
    intro w hSw
    go_simp
    try with_reducible rfl
  try simp only [Act.put, List.setIfInBounds_toArray, List.set_cons_zero, List.set_cons_succ, Array.toArray_toList, List.getElem_toArray, List.getElem_cons_zero, List.getElem_cons_succ]
  refine wpAnyH_take (i := 9) (v := ?v32) rfl (by kernel_rfl) (by kernel_rfl) (by kernel_rfl) (fun _ _ _ h => h) (Or.inl ⟨by rfl, ?hy32⟩) hHeld ?rest32
  case hy32 =>
    intro w hSw
    go_simp
    try with_reducible rfl
  try simp only [Act.put, List.setIfInBounds_toArray, List.set_cons_zero, List.set_cons_succ, Array.toArray_toList, List.getElem_toArray, List.getElem_cons_zero, List.getElem_cons_succ]
  refine wpAnyH_take (i := 10) (v := ?v33) rfl (by kernel_rfl) (by kernel_rfl) (by kernel_rfl) (fun _ _ _ h => h) (Or.inl ⟨by rfl, ?hy33⟩) hHeld ?rest33
  case hy33 =>
    intro w hSw
    have ld := L5.out _ hSw
    go_simp
    try with_reducible rfl
  try simp only [Act.put, List.setIfInBounds_toArray, List.set_cons_zero, List.set_cons_succ, Array.toArray_toList, List.getElem_toArray, List.getElem_cons_zero, List.getElem_cons_succ]
  refine wpAnyH_ready (rs := [5]) (by kernel_rfl) (by simp) ?_
  refine AllReadyH.cons rfl (fun K hK => ?_) AllReadyH.nil
  go_simp
  refine (HHX.out _ _ _ HB7.out.drew (HRL.out.below HDR.out)).mono ?_
  rintro e w8 ⟨rfl, hb8'⟩
  dsimp only
  have hb8 : Below w7.heap.size w7 w8 := HDR.out.trans hb8'
  have B8 := HB7.out.trans (hb8.mono HB7.out.size)
  refine hK.out _ _ (hb8) (fun hHeld => ?_)
  clear hK K
  try simp only [Act.put, List.setIfInBounds_toArray, List.set_cons_zero, List.set_cons_succ, Array.toArray_toList, List.getElem_toArray, List.getElem_cons_zero, List.getElem_cons_succ]
  refine wpAnyH_ready (rs := [11]) (by kernel_rfl) (by simp) ?_
  refine AllReadyH.cons rfl (fun K hK => ?_) AllReadyH.nil
  go_simp
  refine (HRHX.out _ _ _ B8 (HRL.out.below hb8)).mono ?_
  rintro e w9 ⟨rfl, hb9'⟩
  dsimp only
  have hb9 : Below w7.heap.size w7 w9 := hb8.trans (hb9'.mono hb8.size)
  refine hK.out _ _ (hb9) (fun hHeld => ?_)
  clear hK K
  try simp only [Act.put, List.setIfInBounds_toArray, List.set_cons_zero, List.set_cons_succ, Array.toArray_toList, List.getElem_toArray, List.getElem_cons_zero, List.getElem_cons_succ]
  refine wpAnyH_take (i := 12) (v := ?v34) rfl (by kernel_rfl) (by kernel_rfl) (by kernel_rfl) (fun _ _ _ h => h) (Or.inl ⟨by rfl, ?hy34⟩) hHeld ?rest34
  case hy34 =>
    intro w hSw
    go_simp
    try with_reducible rfl
  try simp only [Act.put, List.setIfInBounds_toArray, List.set_cons_zero, List.set_cons_succ, Array.toArray_toList, List.getElem_toArray, List.getElem_cons_zero, List.getElem_cons_succ]
  refine wpAnyH_done (by kernel_rfl) ?_ _
  refine NoPanic.normal ?_
  clear HDR L9 L5 hHeld hb8' hb9' B8 hb8
  have hrl9 := HRL.out.below hb9
  clear HRL
  have HRL := hid hrl9
  clear hrl9
  have hs9 := hb9.size
  have hB9 := HB7.out.trans (hb9.mono HB7.out.size)
  have r1' := (hb9.block y1 (by have := t1; omega)).trans R1.out
  have t1' : y1 < w9.heap.size := by omega
  clear t1
  have t1 := t1'
  clear t1'
  have r5' := (hb9.block y5 (by have := t5; omega)).trans R5.out
  have t5' : y5 < w9.heap.size := by omega
  clear t5
  have t5 := t5'
  clear t5'
  have r6' := (hb9.block y6 (by have := t6; omega)).trans R6.out
  have t6' : y6 < w9.heap.size := by omega
  clear t6
  have t6 := t6'
  clear t6'
  clear HB7
  clear R1
  have R1 := hid r1'
  clear r1'
  clear R5
  have R5 := hid r5'
  clear r5'
  clear R6
  have R6 := hid r6'
  clear r6'
  have HB9 := hid hB9
  clear hB9 hb9 hs9
  by_cases hj : jj < 0
  · have j1 : decide (jj < 0) = true := by simp; omega
    go_wp2
    go_ret
    exact ⟨rfl, HB9.out⟩
  · have j1 : decide (jj < 0) = false := by simp; omega
    by_cases hd0 : D = 0
    · have j2 : ((D : Int) == 0) = true := by simp; omega
      have j3 : (D == 0) = true := by simp; omega
      go_wp2
      go_ret
      exact ⟨rfl, HB9.out⟩
    · have j2 : ((D : Int) == 0) = false := by simp; omega
      have j3 : (D == 0) = false := by simp; omega
      obtain ⟨J, rfl⟩ : ∃ J : Nat, jj = (J : Int) := ⟨jj.toNat, by omega⟩
      have wJ : IntKind.u64.wrap (J : Int) = (J : Int) := by rw [IntKind.wrap_u64]; omega
      have hhj := HHJ0.out J rfl
      have hrhj := HRHJ0.out J rfl
      have HHJ := hid hhj
      have HRHJ := hid hrhj
      clear hhj hrhj HHJ0 HRHJ0
      go_upto_region 19 with fail
      have hl6 : ∀ W, Below w9.heap.size w9 W → (lv24 ⟨y6, 0, none⟩).run Tryd.prog W = .ok (.agg (vs .u8 32 L)) W := fun W h => lv24_run ((h.block _ t6).trans R6.out)
      have L6 := hid hl6
      clear hl6
      have hl5 : ∀ W, Below w9.heap.size w9 W → (lv24 ⟨y5, 0, none⟩).run Tryd.prog W = .ok (.agg (vs .u8 32 T)) W := fun W h => lv24_run ((h.block _ t5).trans R5.out)
      have L5 := hid hl5
      clear hl5
      have hdr : Below w9.heap.size w9 w9.drew := (Below.refl _ _).drew
      have HDR := hid hdr
      clear hdr
      refine wp_region_noPanic ?_
      refine wp_region_held_drew (S := fun W => Below w9.heap.size w9 W) (by kernel_rfl) (HDR.out) (fun hHeld => ?_)
      refine wpAnyH_take (i := 0) (v := ?v35) rfl (by kernel_rfl) (by kernel_rfl) (by kernel_rfl) (fun _ _ _ h => h) (Or.inl ⟨by rfl, ?hy35⟩) hHeld ?rest35
      case hy35 =>
        intro w hSw
        have ld := L6.out _ hSw
        go_simp
        try with_reducible rfl
      try simp only [Act.put, List.setIfInBounds_toArray, List.set_cons_zero, List.set_cons_succ, Array.toArray_toList, List.getElem_toArray, List.getElem_cons_zero, List.getElem_cons_succ]
      refine wpAnyH_take (i := 1) (v := ?v36) rfl (by kernel_rfl) (by kernel_rfl) (by kernel_rfl) (fun _ _ _ h => h) (Or.inl ⟨by rfl, ?hy36⟩) hHeld ?rest36
      case hy36 =>
        intro w hSw
        go_simp
        try with_reducible rfl
      try simp only [Act.put, List.setIfInBounds_toArray, List.set_cons_zero, List.set_cons_succ, Array.toArray_toList, List.getElem_toArray, List.getElem_cons_zero, List.getElem_cons_succ]
      refine wpAnyH_take (i := 2) (v := ?v37) rfl (by kernel_rfl) (by kernel_rfl) (by kernel_rfl) (fun _ _ _ h => h) (Or.inl ⟨by rfl, ?hy37⟩) hHeld ?rest37
      case hy37 =>
        intro w hSw
        go_simp
        try with_reducible rfl
      try simp only [Act.put, List.setIfInBounds_toArray, List.set_cons_zero, List.set_cons_succ, Array.toArray_toList, List.getElem_toArray, List.getElem_cons_zero, List.getElem_cons_succ]
      refine wpAnyH_take (i := 3) (v := ?v38) rfl (by kernel_rfl) (by kernel_rfl) (by kernel_rfl) (fun _ _ _ h => h) (Or.inl ⟨by rfl, ?hy38⟩) hHeld ?rest38
      case hy38 =>
        intro w hSw
        go_simp
        try with_reducible rfl
      try simp only [Act.put, List.setIfInBounds_toArray, List.set_cons_zero, List.set_cons_succ, Array.toArray_toList, List.getElem_toArray, List.getElem_cons_zero, List.getElem_cons_succ]
      refine wpAnyH_take (i := 4) (v := ?v39) rfl (by kernel_rfl) (by kernel_rfl) (by kernel_rfl) (fun _ _ _ h => h) (Or.inl ⟨by rfl, ?hy39⟩) hHeld ?rest39
      case hy39 =>
        intro w hSw
        have ld := L5.out _ hSw
        go_simp
        try with_reducible rfl
      try simp only [Act.put, List.setIfInBounds_toArray, List.set_cons_zero, List.set_cons_succ, Array.toArray_toList, List.getElem_toArray, List.getElem_cons_zero, List.getElem_cons_succ]
      refine wpAnyH_take (i := 6) (v := ?v40) rfl (by kernel_rfl) (by kernel_rfl) (by kernel_rfl) (fun _ _ _ h => h) (Or.inl ⟨by rfl, ?hy40⟩) hHeld ?rest40
      case hy40 =>
        intro w hSw
        have ld := L6.out _ hSw
        go_simp
        try with_reducible rfl
      try simp only [Act.put, List.setIfInBounds_toArray, List.set_cons_zero, List.set_cons_succ, Array.toArray_toList, List.getElem_toArray, List.getElem_cons_zero, List.getElem_cons_succ]
      refine wpAnyH_take (i := 7) (v := ?v41) rfl (by kernel_rfl) (by kernel_rfl) (by kernel_rfl) (fun _ _ _ h => h) (Or.inl ⟨by rfl, ?hy41⟩) hHeld ?rest41
      case hy41 =>
        intro w hSw
        go_simp
        try with_reducible rfl
      try simp only [Act.put, List.setIfInBounds_toArray, List.set_cons_zero, List.set_cons_succ, Array.toArray_toList, List.getElem_toArray, List.getElem_cons_zero, List.getElem_cons_succ]
      refine wpAnyH_take (i := 8) (v := ?v42) rfl (by kernel_rfl) (by kernel_rfl) (by kernel_rfl) (fun _ _ _ h => h) (Or.inl ⟨by rfl, ?hy42⟩) hHeld ?rest42
      case hy42 =>
        intro w hSw
        go_simp
        try with_reducible rfl
      try simp only [Act.put, List.setIfInBounds_toArray, List.set_cons_zero, List.set_cons_succ, Array.toArray_toList, List.getElem_toArray, List.getElem_cons_zero, List.getElem_cons_succ]
      refine wpAnyH_take (i := 9) (v := ?v43) rfl (by kernel_rfl) (by kernel_rfl) (by kernel_rfl) (fun _ _ _ h => h) (Or.inl ⟨by rfl, ?hy43⟩) hHeld ?rest43
      case hy43 =>
        intro w hSw
        go_simp
        try with_reducible rfl
      try simp only [Act.put, List.setIfInBounds_toArray, List.set_cons_zero, List.set_cons_succ, Array.toArray_toList, List.getElem_toArray, List.getElem_cons_zero, List.getElem_cons_succ]
      refine wpAnyH_take (i := 10) (v := ?v44) rfl (by kernel_rfl) (by kernel_rfl) (by kernel_rfl) (fun _ _ _ h => h) (Or.inl ⟨by rfl, ?hy44⟩) hHeld ?rest44
      case hy44 =>
        intro w hSw
        have ld := L5.out _ hSw
        go_simp
        try with_reducible rfl
      try simp only [Act.put, List.setIfInBounds_toArray, List.set_cons_zero, List.set_cons_succ, Array.toArray_toList, List.getElem_toArray, List.getElem_cons_zero, List.getElem_cons_succ]
      refine wpAnyH_ready (rs := [5]) (by kernel_rfl) (by simp) ?_
      refine AllReadyH.cons rfl (fun K hK => ?_) AllReadyH.nil
      go_simp
      refine (HHJ.out _ _ _ HB9.out.drew (HRL.out.below HDR.out)).mono ?_
      rintro e w10 ⟨rfl, hb10'⟩
      dsimp only
      have hb10 : Below w9.heap.size w9 w10 := HDR.out.trans hb10'
      have B10 := HB9.out.trans (hb10.mono HB9.out.size)
      refine hK.out _ _ (hb10) (fun hHeld => ?_)
      clear hK K
      try simp only [Act.put, List.setIfInBounds_toArray, List.set_cons_zero, List.set_cons_succ, Array.toArray_toList, List.getElem_toArray, List.getElem_cons_zero, List.getElem_cons_succ]
      refine wpAnyH_ready (rs := [11]) (by kernel_rfl) (by simp) ?_
      refine AllReadyH.cons rfl (fun K hK => ?_) AllReadyH.nil
      go_simp
      refine (HRHJ.out _ _ _ B10 (HRL.out.below hb10)).mono ?_
      rintro e w11 ⟨rfl, hb11'⟩
      dsimp only
      have hb11 : Below w9.heap.size w9 w11 := hb10.trans (hb11'.mono hb10.size)
      refine hK.out _ _ (hb11) (fun hHeld => ?_)
      clear hK K
      try simp only [Act.put, List.setIfInBounds_toArray, List.set_cons_zero, List.set_cons_succ, Array.toArray_toList, List.getElem_toArray, List.getElem_cons_zero, List.getElem_cons_succ]
      refine wpAnyH_take (i := 12) (v := ?v45) rfl (by kernel_rfl) (by kernel_rfl) (by kernel_rfl) (fun _ _ _ h => h) (Or.inl ⟨by rfl, ?hy45⟩) hHeld ?rest45
      case hy45 =>
        intro w hSw
        go_simp
        try with_reducible rfl
      try simp only [Act.put, List.setIfInBounds_toArray, List.set_cons_zero, List.set_cons_succ, Array.toArray_toList, List.getElem_toArray, List.getElem_cons_zero, List.getElem_cons_succ]
      refine wpAnyH_take (i := 13) (v := ?v46) rfl (by kernel_rfl) (by kernel_rfl) (by kernel_rfl) (fun _ _ _ h => h) (Or.inl ⟨by rfl, ?hy46⟩) hHeld ?rest46
      case hy46 =>
        intro w hSw
        go_simp
        try with_reducible rfl
      try simp only [Act.put, List.setIfInBounds_toArray, List.set_cons_zero, List.set_cons_succ, Array.toArray_toList, List.getElem_toArray, List.getElem_cons_zero, List.getElem_cons_succ]
      refine wpAnyH_done (by kernel_rfl) ?_ _
      refine NoPanic.normal ?_
      go_wp2
      go_ret
      exact ⟨rfl, HB9.out.trans (hb11.mono HB9.out.size)⟩

end Go.Proofs.YtahnlfiahchdeaaDoor
