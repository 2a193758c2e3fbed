/-
  What the program's functions of layer 16 answer.
-/

import Derived.Test.YtficlakgameglaaDoorQM
import Derived.Test.YtficlakgameglaaDoorQR
import Derived.Test.YtficlakgameglaaDoorQE
namespace Go.Proofs.YtficlakgameglaaDoor

open Go.RowKit

set_option linter.unusedVariables false

set_option linter.unusedSimpArgs false

set_option maxRecDepth 20000

/-- A version, stored. -/
def svVer (a : Addr) (v : Value) : Sem Unit := storeVar 26 a v

theorem svVer_eq (a : Addr) (v : Value) : storeVar 26 a v = svVer a v := rfl

theorem svVer_newv (W : World) (o c : Nat → Int) : (svVer ⟨W.heap.size, 0, none⟩ (.agg (vs .u8 4 c))).run Tryd.prog (W.alloc (.cells (vs .u8 4 o) 26)) = .ok () (W.alloc (.cells (vs .u8 4 c) 26)) :=
  run_storeVar_new W 26 _ _ (by rw [vs_size]; kernel_rfl) (by rw [vs_size, vs_size]) (vs_one _ _ _)

theorem svVer_run {w : World} {b : Nat} {o : Nat → Int} {t : TypeId} (h : w.heap[b]? = some (.cells (vs .u8 4 o) t)) (c : Nat → Int) : (svVer ⟨b, 0, none⟩ (.agg (vs .u8 4 c))).run Tryd.prog w = .ok () (w.setRow b (vs .u8 4 c)) :=
  run_storeVar_row w b t 26 _ _ h (by rw [vs_size]; kernel_rfl) (by rw [vs_size, vs_size]) (vs_one _ _ _)

theorem lvVer_run {w : World} {b : Nat} {c : Nat → Int} {t : TypeId} (h : w.heap[b]? = some (.cells (vs .u8 4 c) t)) : (lvVer ⟨b, 0, none⟩).run Tryd.prog w = .ok (.agg (vs .u8 4 c)) w :=
  loadAt_var (load_row h 26 _ Tryd.underlying26 rfl (by rw [vs_size]; kernel_rfl))

theorem zero_Ver : ∀ w : World, (zeroValue 26).run Tryd.prog w = .ok (.agg (vs .u8 4 fun _ => 0)) w := (zero_of_info (n := 4) (by kernel_rfl)).1

theorem ky_new (W : World) (o c : Nat → Int) : (svKy ⟨W.heap.size, 0, none⟩ (.agg (vs .u8 48 c))).run Tryd.prog (W.alloc (.cells (vs .u8 48 o) 44)) = .ok () (W.alloc (.cells (vs .u8 48 c) 44)) :=
  run_storeVar_new W 44 _ _ (by rw [vs_size]; kernel_rfl) (by rw [vs_size, vs_size]) (vs_one _ _ _)

theorem bR_pk (f : Nat → Int) (len : Nat) (h1 : 1 ≤ len) (h2 : len ≤ 32) (j : Nat) : bR f len j = pk f len j := by
  have e : (len + 31) / 32 = 1 := by omega
  unfold bR cks
  rw [e]
  unfold treeV
  rw [if_pos ⟨by decide, by decide⟩]
  show (if 0 < 1 then rt32 (pk f len) 0 else fun _ => 0) j = pk f len j
  rw [if_pos (by omega), rt32_0]

theorem eqR_comm (c d : Nat → Int) : eqR c d = eqR d c := by
  unfold eqR
  congr 1
  funext j
  rw [Bool.eq_iff_iff]
  simp only [beq_iff_eq]
  exact eq_comm

attribute [local go_sem ↓] sv24_eq lv24_eq ix22_eq slr_eq bs22_eq sv8_eq lvState_eq svState_eq bdState_eq lvVer_eq svVer_eq bdVer_eq bdRo_eq ixKy_eq lvKy_eq svKy_eq

set_option maxRecDepth 20000 in
set_option maxHeartbeats 1000000 in
theorem rootof16 (a : Option Addr) (len cap : Nat) (f : Nat → Int) (w : World) (hr : Rts w a len cap f) (hl : 32 * len ≤ 140737488355328) (hf : ByB f (32 * len)) (hS : Sh w) :
    Calls Tryd.prog 89 #[.slice a len cap] w fun e w' => e = .returned (.agg (vs .u8 32 (treeV f len (len : Nat)))) ∧ Below w.heap.size w w' := by
  have z := zero_root
  have hB0 : Below w.heap.size w (w.alloc (.cells (vs .u8 32 fun _ => 0) 24)) := (Below.refl _ _).alloc (Nat.le_refl _) _
  have r0 : (w.alloc (.cells (vs .u8 32 fun _ => 0) 24)).heap[w.heap.size]? = some (.cells (vs .u8 32 fun _ => 0) 24) := heap_new rfl
  have z0 : (w.alloc (.cells (vs .u8 32 fun _ => 0) 24)).heap.size = w.heap.size + 1 := by simp
  obtain ⟨W0, hW0⟩ : ∃ W, w.alloc (.cells (vs .u8 32 fun _ => 0) 24) = W := ⟨_, rfl⟩
  rw [hW0] at hB0 r0 z0
  have ht := tree_any a len cap f (len : Nat) W0 (hr.below hB0) hl hf (hS.below hB0) (by omega) (by omega)
  obtain ⟨C, eC⟩ : ∃ C, treeV f len (len : Nat) = C := ⟨_, rfl⟩
  obtain ⟨E, eE⟩ : ∃ E, treeE len (len : Nat) = E := ⟨_, rfl⟩
  rw [eC, eE] at ht
  rw [eC]
  have sv := fun W => sv24_newv W (fun _ => 0) C
  have HT := hid ht
  have R0 := hid r0
  have HB0 := hid hB0
  clear ht r0 hB0 hS hr hf eC eE
  go_enter Tryd.func89, Tryd.ntmps89
  go_upto_region 2 with (go_at_call 94; refine HT.out.mono ?_; rintro e w1 ⟨rfl, hb1⟩)
  obtain ⟨W2, hW2⟩ : ∃ W, w1.alloc (.cells (vs .u8 32 C) 24) = W := ⟨_, rfl⟩
  rw [hW2]
  have hz1 := hb1.size
  have r1 : W2.heap[w1.heap.size]? = some (.cells (vs .u8 32 C) 24) := by rw [← hW2]; exact heap_new rfl
  have r0' : W2.heap[w.heap.size]? = some (.cells (vs .u8 32 fun _ => 0) 24) := by rw [← hW2]; exact (heap_old (by omega)).trans ((hb1.block _ (by omega)).trans R0.out)
  have hB2 : Below w.heap.size w W2 := by rw [← hW2]; exact (HB0.out.trans (hb1.mono (by omega))).alloc (by omega) _
  have l1 := lv24_run r1
  have s1 := sv24_run r0' C
  have HR0 := hid r0'
  have HB2 := hid hB2
  clear r1 r0' hB2 hW2 hb1 sv HT
  go_wp2
  refine ret24 2 w.heap.size _ 24 rfl rfl rfl (setRow_at HR0.out) ⟨rfl, ?_⟩
  exact below_row HB2.out (Nat.le_refl _) _

set_option maxRecDepth 20000 in
set_option maxHeartbeats 1000000 in
theorem broot16 (a : Option Addr) (len cap : Nat) (f : Nat → Int) (w : World) (hb : Bys w a len cap f) (hl : len ≤ 1073741824) (hf : ∀ j, j < len → 0 ≤ f j ∧ f j < 256) (hS : Sh w) :
    Calls Tryd.prog 81 #[.slice a len cap] w fun e w' => e = .returned (.agg (vs .u8 32 (bR f len))) ∧ Below w.heap.size w w' := by
  have z := zero_root
  have hB0 : Below w.heap.size w (w.alloc (.cells (vs .u8 32 fun _ => 0) 24)) := (Below.refl _ _).alloc (Nat.le_refl _) _
  have r0 : (w.alloc (.cells (vs .u8 32 fun _ => 0) 24)).heap[w.heap.size]? = some (.cells (vs .u8 32 fun _ => 0) 24) := heap_new rfl
  have z0 : (w.alloc (.cells (vs .u8 32 fun _ => 0) 24)).heap.size = w.heap.size + 1 := by simp
  obtain ⟨W0, hW0⟩ : ∃ W, w.alloc (.cells (vs .u8 32 fun _ => 0) 24) = W := ⟨_, rfl⟩
  rw [hW0] at hB0 r0 z0
  have hp := pack_any a len cap f W0 (hb.below hB0) (by omega)
  obtain ⟨g0, eg⟩ : ∃ g, W0.heap.size = g := ⟨_, rfl⟩
  have hg0 : w.heap.size < g0 := by omega
  obtain ⟨N, eN⟩ : ∃ N, (len + 31) / 32 = N := ⟨_, rfl⟩
  have ev : bR f len = treeV (pk f len) N (N : Nat) := by unfold bR cks; rw [eN]
  rw [eN, eg] at hp
  have hN : N ≤ 1073741824 := by omega
  have hro : ∀ W : World, Below w.heap.size w W → W.heap[g0]? = some (.cells (vs .u8 (32 * N) (pk f len)) 24) → Calls Tryd.prog 89 #[.slice (some ⟨g0, 0, none⟩) N N] W fun e w' => e = .returned (.agg (vs .u8 32 (bR f len))) ∧ Below W.heap.size W w' := fun W h1 h2 => by
    rw [ev]
    exact rootof16 (some ⟨g0, 0, none⟩) N N (pk f len) W (rts_row h2) (by omega) (pk_bd hf _) (hS.below h1)
  obtain ⟨C, eC⟩ : ∃ C, bR f len = C := ⟨_, rfl⟩
  rw [eC] at hro
  rw [eC]
  have HP := hid hp
  have HRO := hid hro
  have R0 := hid r0
  have HB0 := hid hB0
  clear hp hro r0 hB0 hS hb hf eC ev eN eg z0
  go_enter Tryd.func81, Tryd.ntmps81
  go_wp2_with (first
    | (go_at_call 90; refine HP.out.mono ?_; rintro e w1 ⟨rfl, hb1, hz1, hr1⟩; have HR1 := hid (HRO.out w1 (HB0.out.trans (hb1.mono (by omega))) hr1); have HB1 := hid hb1; clear hb1 hr1)
    | (go_at_call 89; refine HR1.out.mono ?_; rintro e w2 ⟨rfl, hb2⟩; have s1 := sv24_run ((hb2.block w.heap.size (by omega)).trans ((HB1.out.block w.heap.size (by omega)).trans R0.out)) C))
  refine ret24 2 w.heap.size _ 24 rfl rfl rfl (setRow_at ((hb2.block w.heap.size (by omega)).trans ((HB1.out.block w.heap.size (by omega)).trans R0.out))) ⟨rfl, ?_⟩
  exact below_row (HB0.out.trans ((HB1.out.mono (by omega)).trans (hb2.mono (by omega)))) (Nat.le_refl _) _

theorem broot16_pk (a : Option Addr) (len cap : Nat) (f : Nat → Int) (w : World) (hb : Bys w a len cap f) (h1 : 1 ≤ len) (h2 : len ≤ 32) (hf : ∀ j, j < len → 0 ≤ f j ∧ f j < 256) (hS : Sh w) :
    Calls Tryd.prog 81 #[.slice a len cap] w fun e w' => e = .returned (.agg (vs .u8 32 (pk f len))) ∧ Below w.heap.size w w' := by
  have h := broot16 a len cap f w hb (by omega) hf hS
  rw [vs_congr (f := bR f len) (g := pk f len) fun j _ => bR_pk f len h1 h2 j] at h
  exact h

set_option maxHeartbeats 4000000 in
theorem domof16 (k : Int) (v r : Nat → Int) (w : World) (hv : ∀ j, j < 4 → 0 ≤ v j ∧ v j < 256) (hr : ∀ j, j < 32 → 0 ≤ r j ∧ r j < 256) (hS : Sh w) :
    Calls Tryd.prog 60 #[.int .i64 k, .agg (vs .u8 4 v), .agg (vs .u8 32 r)] w fun e' w' => e' = .returned (.agg (vs .u8 32 (dmV k v r))) ∧ Below w.heap.size w w' := by
  obtain ⟨W0, hW0⟩ : ∃ W, ((w.alloc (.cells (vs .u8 4 v) 26)).alloc (.cells (vs .u8 32 r) 24)).alloc (.cells (vs .u8 32 fun _ => 0) 24) = W := ⟨_, rfl⟩
  have r0 : W0.heap[w.heap.size]? = some (.cells (vs .u8 4 v) 26) := by rw [← hW0]; exact (heap_old (by simp <;> omega)).trans ((heap_old (by simp)).trans (heap_new rfl))
  have r1 : W0.heap[w.heap.size + 1]? = some (.cells (vs .u8 32 r) 24) := by rw [← hW0]; exact (heap_old (by simp)).trans (heap_new (by simp))
  have r2 : W0.heap[w.heap.size + 2]? = some (.cells (vs .u8 32 fun _ => 0) 24) := by rw [← hW0]; exact heap_new (by simp)
  have hB0 : Below w.heap.size w W0 := by rw [← hW0]; exact (((Below.refl _ _).alloc (Nat.le_refl _) _).alloc (by simp) _).alloc (by simp <;> omega) _
  have z2 : w.heap.size + 2 < W0.heap.size := some_ltK r2
  have hS0 := hS.below hB0
  have zr := zero_root
  have z8 := zero_8
  have kw : IntKind.u64.wrap k = k % 18446744073709551616 := by rw [IntKind.wrap_u64]
  have hby := fun (W : World) => wbytes_any (k % 18446744073709551616) W (by omega) (by omega)
  have hpa : ∀ W : World, Below W0.heap.size W0 W → Calls Tryd.prog 81 #[.slice (some ⟨w.heap.size, 0, none⟩) 4 4] W fun e w' => e = .returned (.agg (vs .u8 32 (pk v 4))) ∧ Below W.heap.size W w' := fun W h => broot16_pk (some ⟨w.heap.size, 0, none⟩) 4 4 v W (.inr (.inr ⟨w.heap.size, 0, rfl, by omega, by omega, by have := h.size; omega, fun j hj => by rw [Nat.zero_add]; exact row_int ((h.block _ (by omega)).trans r0) j hj⟩)) (by omega) (by omega) hv (hS0.below h)
  have htw : ∀ W : World, Below W0.heap.size W0 W → Calls Tryd.prog 64 #[.agg (vs .u8 32 (pk v 4)), .agg (vs .u8 32 r)] W fun e w' => e = .returned (.agg (vs .u8 32 (tw (pk v 4) r))) ∧ Below W.heap.size W w' := fun W h => two_tw (pk v 4) r W (hS0.below h) (fun j _ => pk_in hv j) hr
  have hlr : ∀ W : World, Below W0.heap.size W0 W → (lv24 ⟨w.heap.size + 1, 0, none⟩).run Tryd.prog W = .ok (.agg (vs .u8 32 r)) W := fun W h => lv24_run ((h.block _ (by omega)).trans r1)
  have hdm : ∀ j, dmV k v r j = if j < 4 then nmB (k % 18446744073709551616) j else tw (pk v 4) r (j - 4) := fun j => by
    unfold dmV
    by_cases h : j < 4
    · rw [if_pos h, if_pos h, kdB_64 k j h]
    · rw [if_neg h, if_neg h]
  generalize dmV k v r = DM at hdm ⊢
  generalize tw (pk v 4) r = X at htw hdm
  generalize pk v 4 = PV at hpa htw
  generalize k % 18446744073709551616 = K0 at kw hby hdm
  have v8 := fun W => sv8_newv W (fun _ => 0) (nmB K0)
  have HB := hid hB0
  have HW := hid hW0
  have HBY := hid hby
  have HPA0 := hid hpa
  have HTW0 := hid htw
  have HLR0 := hid hlr
  have HDM := hid hdm
  have HR2 := hid r2
  clear hB0 hW0 hby hpa htw hlr hdm hS hS0 r0 r1 r2 hv hr
  go_enter Tryd.func60, Tryd.ntmps60
  go_upto_region 1 with fail
  rw [HW.out]
  clear HW
  go_upto_region 2 with (go_at_call 80; refine (HBY.out _).mono ?_; rintro e' w1 ⟨rfl, hb1⟩)
  obtain ⟨W2, hW2⟩ : ∃ W, w1.alloc (.cells (vs .u8 8 (nmB K0)) 128) = W := ⟨_, rfl⟩
  rw [hW2]
  have rk : W2.heap[w1.heap.size]? = some (.cells (vs .u8 8 (nmB K0)) 128) := by rw [← hW2]; exact heap_new rfl
  have hE2 : Below W0.heap.size W0 W2 := by rw [← hW2]; exact hb1.alloc hb1.size _
  have q1 : w.heap.size + 2 < w1.heap.size := by have := hb1.size; omega
  obtain ⟨y7, e7⟩ : ∃ y, w1.heap.size = y := ⟨_, rfl⟩
  rw [e7] at rk q1 ⊢
  have hpa := fun (W : World) (h : Below W2.heap.size W2 W) => HPA0.out W (hE2.trans (h.mono hE2.size))
  have htw := fun (W : World) (h : Below W2.heap.size W2 W) => HTW0.out W (hE2.trans (h.mono hE2.size))
  have hlr := fun (W : World) (h : Below W2.heap.size W2 W) => HLR0.out W (hE2.trans (h.mono hE2.size))
  have hBd : Below W2.heap.size W2 W2.drew := (Below.refl _ _).drew
  have HPA := hid hpa
  have HTW := hid htw
  have HLR := hid hlr
  have HRK := hid rk
  have HE2 := hid hE2
  clear hpa htw hlr rk hE2 hW2 e7 hb1 zr z8 v8 kw HPA0 HTW0 HLR0 HBY
  go_cut [8] from 10 (fun u wx => ∃ y, u = .pointer (some ⟨y, 0, none⟩) ∧ wx.heap[y]? = some (.cells (vs .u8 32 X) 24) ∧ Below W2.heap.size W2 wx)
  case first =>
    refine wp_region_noPanic ?_
    refine wp_region_held_drew (S := fun W => Below W2.heap.size W2 W) (by kernel_rfl) (hBd) (fun hHeld => ?_)
    refine tk 0 (v := ?v101) ?y101 hHeld ?r101
    case y101 => intro w hSw; go_simp; try with_reducible rfl
    refine tk 2 (v := ?v102) ?y102 hHeld ?r102
    case y102 => intro w hSw; have ld0 := HLR.out w hSw; go_simp; try with_reducible rfl
    try simp only [Act.put, List.setIfInBounds_toArray, List.set_cons_zero, List.set_cons_succ, Array.toArray_toList, List.getElem_toArray, List.getElem_cons_zero, List.getElem_cons_succ]
    refine wpAnyH_ready (rs := [1, 4]) (by kernel_rfl) (by simp) ?_
    refine AllReadyH.cons rfl (fun K hK => ?_) (AllReadyH.cons rfl (fun K hK => ?_) AllReadyH.nil)
    · go_simp
      refine (HPA.out _ (hBd)).mono ?_
      rintro e' x1 ⟨rfl, hd1⟩
      dsimp only
      have hc1_0 : Below W2.heap.size W2 x1 := (hBd).trans (hd1.mono (hBd).size)
      refine hK.out _ _ (hc1_0) (fun hHeld => ?_)
      clear hK K
      try simp only [Act.put, List.setIfInBounds_toArray, List.set_cons_zero, List.set_cons_succ, Array.toArray_toList, List.getElem_toArray, List.getElem_cons_zero, List.getElem_cons_succ]
      refine wpAnyH_ready (rs := [3, 4]) (by kernel_rfl) (by simp) ?_
      refine AllReadyH.cons rfl (fun K hK => ?_) (AllReadyH.cons rfl (fun K hK => ?_) AllReadyH.nil)
      · go_simp
        refine (HTW.out _ (hc1_0)).mono ?_
        rintro e' x2 ⟨rfl, hd2⟩
        dsimp only
        have hc2_0 : Below W2.heap.size W2 x2 := (hc1_0).trans (hd2.mono (hc1_0).size)
        refine hK.out _ _ (hc2_0) (fun hHeld => ?_)
        clear hK K
        try simp only [Act.put, List.setIfInBounds_toArray, List.set_cons_zero, List.set_cons_succ, Array.toArray_toList, List.getElem_toArray, List.getElem_cons_zero, List.getElem_cons_succ]
        refine wpAnyH_ready (rs := [4]) (by kernel_rfl) (by simp) ?_
        refine AllReadyH.cons rfl (fun K hK => ?_) AllReadyH.nil
        have zr := zero_root
        go_simp
        have hc3_0 : Below W2.heap.size W2 (x2.alloc (.cells (vs .u8 32 fun _ => 0) 24)) := (hc2_0).alloc (hc2_0).size _
        have ry3 : (x2.alloc (.cells (vs .u8 32 fun _ => 0) 24)).heap[x2.heap.size]? = some (.cells (vs .u8 32 fun _ => 0) 24) := heap_new (by simp)
        have hy3 : W2.heap.size ≤ x2.heap.size := (hc2_0).size
        refine hK.out _ _ (hc3_0) (fun hHeld => ?_)
        clear hK K
        try simp only [Act.put, List.setIfInBounds_toArray, List.set_cons_zero, List.set_cons_succ, Array.toArray_toList, List.getElem_toArray, List.getElem_cons_zero, List.getElem_cons_succ]
        refine wpAnyH_ready (rs := [5]) (by kernel_rfl) (by simp) ?_
        refine AllReadyH.cons rfl (fun K hK => ?_) AllReadyH.nil
        have v3 := sv24_run ry3 X
        go_simp
        have hc4_0 : Below W2.heap.size W2 _ := below_row (hc3_0) hy3 (vs .u8 32 X)
        refine hK.out _ _ (hc4_0) (fun hHeld => ?_)
        clear hK K
        try simp only [Act.put, List.setIfInBounds_toArray, List.set_cons_zero, List.set_cons_succ, Array.toArray_toList, List.getElem_toArray, List.getElem_cons_zero, List.getElem_cons_succ]
        refine wpAnyH_done (by kernel_rfl) ?_ _
        refine NoPanic.normal ?_
        go_wp2
        go_meet
        exact ⟨_, rfl, setRow_at ry3, hc4_0⟩
      · have zr := zero_root
        go_simp
        have hc5_0 : Below W2.heap.size W2 (x1.alloc (.cells (vs .u8 32 fun _ => 0) 24)) := (hc1_0).alloc (hc1_0).size _
        have ry5 : (x1.alloc (.cells (vs .u8 32 fun _ => 0) 24)).heap[x1.heap.size]? = some (.cells (vs .u8 32 fun _ => 0) 24) := heap_new (by simp)
        have hy5 : W2.heap.size ≤ x1.heap.size := (hc1_0).size
        refine hK.out _ _ (hc5_0) (fun hHeld => ?_)
        clear hK K
        try simp only [Act.put, List.setIfInBounds_toArray, List.set_cons_zero, List.set_cons_succ, Array.toArray_toList, List.getElem_toArray, List.getElem_cons_zero, List.getElem_cons_succ]
        refine wpAnyH_ready (rs := [3]) (by kernel_rfl) (by simp) ?_
        refine AllReadyH.cons rfl (fun K hK => ?_) AllReadyH.nil
        go_simp
        refine (HTW.out _ (hc5_0)).mono ?_
        rintro e' x6 ⟨rfl, hd6⟩
        dsimp only
        have hc6_0 : Below W2.heap.size W2 x6 := (hc5_0).trans (hd6.mono (hc5_0).size)
        have ry6 := (hd6.block _ (some_ltK ry5)).trans ry5
        refine hK.out _ _ (hc6_0) (fun hHeld => ?_)
        clear hK K
        try simp only [Act.put, List.setIfInBounds_toArray, List.set_cons_zero, List.set_cons_succ, Array.toArray_toList, List.getElem_toArray, List.getElem_cons_zero, List.getElem_cons_succ]
        refine wpAnyH_ready (rs := [5]) (by kernel_rfl) (by simp) ?_
        refine AllReadyH.cons rfl (fun K hK => ?_) AllReadyH.nil
        have v3 := sv24_run ry6 X
        go_simp
        have hc7_0 : Below W2.heap.size W2 _ := below_row (hc6_0) hy5 (vs .u8 32 X)
        refine hK.out _ _ (hc7_0) (fun hHeld => ?_)
        clear hK K
        try simp only [Act.put, List.setIfInBounds_toArray, List.set_cons_zero, List.set_cons_succ, Array.toArray_toList, List.getElem_toArray, List.getElem_cons_zero, List.getElem_cons_succ]
        refine wpAnyH_done (by kernel_rfl) ?_ _
        refine NoPanic.normal ?_
        go_wp2
        go_meet
        exact ⟨_, rfl, setRow_at ry6, hc7_0⟩
    · have zr := zero_root
      go_simp
      have hc8_0 : Below W2.heap.size W2 (W2.drew.alloc (.cells (vs .u8 32 fun _ => 0) 24)) := (hBd).alloc (hBd).size _
      have ry8 : (W2.drew.alloc (.cells (vs .u8 32 fun _ => 0) 24)).heap[W2.heap.size]? = some (.cells (vs .u8 32 fun _ => 0) 24) := heap_new (by simp)
      have hy8 : W2.heap.size ≤ W2.heap.size := (hBd).size
      refine hK.out _ _ (hc8_0) (fun hHeld => ?_)
      clear hK K
      try simp only [Act.put, List.setIfInBounds_toArray, List.set_cons_zero, List.set_cons_succ, Array.toArray_toList, List.getElem_toArray, List.getElem_cons_zero, List.getElem_cons_succ]
      refine wpAnyH_ready (rs := [1]) (by kernel_rfl) (by simp) ?_
      refine AllReadyH.cons rfl (fun K hK => ?_) AllReadyH.nil
      go_simp
      refine (HPA.out _ (hc8_0)).mono ?_
      rintro e' x9 ⟨rfl, hd9⟩
      dsimp only
      have hc9_0 : Below W2.heap.size W2 x9 := (hc8_0).trans (hd9.mono (hc8_0).size)
      have ry9 := (hd9.block _ (some_ltK ry8)).trans ry8
      refine hK.out _ _ (hc9_0) (fun hHeld => ?_)
      clear hK K
      try simp only [Act.put, List.setIfInBounds_toArray, List.set_cons_zero, List.set_cons_succ, Array.toArray_toList, List.getElem_toArray, List.getElem_cons_zero, List.getElem_cons_succ]
      refine wpAnyH_ready (rs := [3]) (by kernel_rfl) (by simp) ?_
      refine AllReadyH.cons rfl (fun K hK => ?_) AllReadyH.nil
      go_simp
      refine (HTW.out _ (hc9_0)).mono ?_
      rintro e' x10 ⟨rfl, hd10⟩
      dsimp only
      have hc10_0 : Below W2.heap.size W2 x10 := (hc9_0).trans (hd10.mono (hc9_0).size)
      have ry10 := (hd10.block _ (some_ltK ry9)).trans ry9
      refine hK.out _ _ (hc10_0) (fun hHeld => ?_)
      clear hK K
      try simp only [Act.put, List.setIfInBounds_toArray, List.set_cons_zero, List.set_cons_succ, Array.toArray_toList, List.getElem_toArray, List.getElem_cons_zero, List.getElem_cons_succ]
      refine wpAnyH_ready (rs := [5]) (by kernel_rfl) (by simp) ?_
      refine AllReadyH.cons rfl (fun K hK => ?_) AllReadyH.nil
      have v3 := sv24_run ry10 X
      go_simp
      have hc11_0 : Below W2.heap.size W2 _ := below_row (hc10_0) hy8 (vs .u8 32 X)
      refine hK.out _ _ (hc11_0) (fun hHeld => ?_)
      clear hK K
      try simp only [Act.put, List.setIfInBounds_toArray, List.set_cons_zero, List.set_cons_succ, Array.toArray_toList, List.getElem_toArray, List.getElem_cons_zero, List.getElem_cons_succ]
      refine wpAnyH_done (by kernel_rfl) ?_ _
      refine NoPanic.normal ?_
      go_wp2
      go_meet
      exact ⟨_, rfl, setRow_at ry10, hc11_0⟩
  case rest =>
    clear HPA HTW HLR hBd
    obtain ⟨y8, rfl, r8, hc⟩ := hcut
    have rk := (hc.block _ (some_ltK HRK.out)).trans HRK.out
    have hB8 := HE2.out.trans (hc.mono HE2.out.size)
    have r2 := (hB8.block _ z2).trans HR2.out
    obtain ⟨W3, hW3⟩ : ∃ W, wc.alloc (.cells (vs .u8 32 fun _ => 0) 24) = W := ⟨_, rfl⟩
    have r9 : W3.heap[wc.heap.size]? = some (.cells (vs .u8 32 fun _ => 0) 24) := by rw [← hW3]; exact heap_new rfl
    have hB9 : Below wc.heap.size wc W3 := by rw [← hW3]; exact (Below.refl _ _).alloc (Nat.le_refl _) _
    have q2 := some_ltK r2
    have q7 := some_ltK rk
    have q8 := some_ltK r8
    have q3 := some_ltK r9
    replace r2 := (hB9.block _ q2).trans r2
    replace rk := (hB9.block _ q7).trans rk
    replace r8 := (hB9.block _ q8).trans r8
    have hBw : Below w.heap.size w W3 := HB.out.trans ((hB8.trans (hB9.mono hB8.size)).mono HB.out.size)
    obtain ⟨y9, e9⟩ : ∃ y, wc.heap.size = y := ⟨_, rfl⟩
    have HW3 := hid hW3
    rw [e9] at r9 q2 q7 q8
    have hcp1 := copy_to W3.drew y9 32 (fun _ => 0) (nmB K0) 0 4 ⟨y7, 0, none⟩ 4 8 32 32 24 r9 (by omega) rfl (fun j hj => by rw [addr_add, Nat.zero_add]; exact row_int rk j (by omega))
    obtain ⟨W6, hW6⟩ : ∃ W, W3.drew.setRow y9 (vs .u8 32 (over (fun _ => 0) (nmB K0) 0 4)) = W := ⟨_, rfl⟩
    rw [hW6] at hcp1
    have s9 : W6.heap[y9]? = some (.cells (vs .u8 32 (over (fun _ => 0) (nmB K0) 0 4)) 24) := by rw [← hW6]; exact setRow_at (w := W3.drew) r9
    have s8 : W6.heap[y8]? = some (.cells (vs .u8 32 X) 24) := by rw [← hW6, setRow_other (by omega)]; exact r8
    have s2 : W6.heap[w.heap.size + 2]? = some (.cells (vs .u8 32 fun _ => 0) 24) := by rw [← hW6, setRow_other (by omega)]; exact r2
    have hB6 : Below w.heap.size w W6 := by rw [← hW6]; exact below_row hBw.drew (by omega) _
    have hcp2 := copy_to W6.drew y9 32 (over (fun _ => 0) (nmB K0) 0 4) X 4 28 ⟨y8, 0, none⟩ 32 32 28 28 24 s9 (by omega) rfl (fun j hj => by rw [addr_add, Nat.zero_add]; exact row_int s8 j (by omega))
    obtain ⟨W7, hW7⟩ : ∃ W, W6.drew.setRow y9 (vs .u8 32 (over (over (fun _ => 0) (nmB K0) 0 4) X 4 28)) = W := ⟨_, rfl⟩
    rw [hW7] at hcp2
    have t9 : W7.heap[y9]? = some (.cells (vs .u8 32 DM) 24) := by
      rw [← hW7, setRow_at (w := W6.drew) s9]
      refine congrArg (fun c => some (Obj.cells c 24)) (vs_congr fun j hj => ?_)
      rw [HDM.out]
      unfold over
      by_cases h : j < 4
      · rw [if_neg (by omega), if_pos (by omega), if_pos h, Nat.sub_zero]
      · rw [if_pos (by omega), if_neg h]
    have t2 : W7.heap[w.heap.size + 2]? = some (.cells (vs .u8 32 fun _ => 0) 24) := by rw [← hW7, setRow_other (by omega)]; exact s2
    have hB7 : Below w.heap.size w W7 := by rw [← hW7]; exact below_row hB6.drew (by omega) _
    have HCP := hid hcp1
    have HCP2 := hid hcp2
    have HT := hid (And.intro t9 (And.intro t2 hB7))
    have zr := zero_root
    clear r2 rk r8 r9 hB9 hB8 hW3 hc HE2 HRK HR2 hBw hcp1 hW6 s9 s8 s2 hB6 hcp2 hW7 t9 t2 hB7 q3 HDM
    go_upto_region 4 with fail
    rw [HW3.out]
    clear HW3 zr e9
    refine wp_region_noPanic ?_
    refine wp_region_held_drew (S := fun _ => True) (by kernel_rfl) (trivial) (fun hHeld => ?_)
    refine tk 0 (v := ?v108) ?y108 hHeld ?r108
    case y108 => intro w hSw; go_simp; try with_reducible rfl
    refine tk 1 (v := ?v109) ?y109 hHeld ?r109
    case y109 => intro w hSw; go_simp; try with_reducible rfl
    try simp only [Act.put, List.setIfInBounds_toArray, List.set_cons_zero, List.set_cons_succ, Array.toArray_toList, List.getElem_toArray, List.getElem_cons_zero, List.getElem_cons_succ]
    refine wpAnyH_ready (rs := [2]) (by kernel_rfl) (by simp) ?_
    refine AllReadyH.cons rfl (fun K hK => ?_) AllReadyH.nil
    refine step_copy_is (by rfl) _ _ 39 39 (by rfl) _ _ _ _ (by rfl) (by rfl) HCP.out ?_
    refine hK.out _ _ trivial (fun hHeld => ?_)
    clear hK K
    try simp only [Act.put, List.setIfInBounds_toArray, List.set_cons_zero, List.set_cons_succ, Array.toArray_toList, List.getElem_toArray, List.getElem_cons_zero, List.getElem_cons_succ]
    refine wpAnyH_done (by kernel_rfl) ?_ _
    refine NoPanic.normal ?_
    clear hHeld HCP
    go_upto_region 5 with fail
    refine wp_region_noPanic ?_
    refine wp_region_held_drew (S := fun _ => True) (by kernel_rfl) (trivial) (fun hHeld => ?_)
    refine tk 0 (v := ?v110) ?y110 hHeld ?r110
    case y110 => intro w hSw; go_simp; try with_reducible rfl
    refine tk 1 (v := ?v111) ?y111 hHeld ?r111
    case y111 => intro w hSw; go_simp; try with_reducible rfl
    try simp only [Act.put, List.setIfInBounds_toArray, List.set_cons_zero, List.set_cons_succ, Array.toArray_toList, List.getElem_toArray, List.getElem_cons_zero, List.getElem_cons_succ]
    refine wpAnyH_ready (rs := [2]) (by kernel_rfl) (by simp) ?_
    refine AllReadyH.cons rfl (fun K hK => ?_) AllReadyH.nil
    refine step_copy_is (by rfl) _ _ 39 39 (by rfl) _ _ _ _ (by rfl) (by rfl) HCP2.out ?_
    refine hK.out _ _ trivial (fun hHeld => ?_)
    clear hK K
    try simp only [Act.put, List.setIfInBounds_toArray, List.set_cons_zero, List.set_cons_succ, Array.toArray_toList, List.getElem_toArray, List.getElem_cons_zero, List.getElem_cons_succ]
    refine wpAnyH_done (by kernel_rfl) ?_ _
    refine NoPanic.normal ?_
    clear hHeld HCP2
    obtain ⟨t9, t2, hB7⟩ := HT.out
    clear HT
    have l9 := lv24_run t9
    have s2 := sv24_run t2 DM
    have HT2 := hid t2
    have HB7 := hid hB7
    clear t9 t2 hB7
    go_wp2
    exact ret24 6 (w.heap.size + 2) DM 24 rfl rfl rfl (setRow_at HT2.out) ⟨rfl, below_row HB7.out (by omega) _⟩

set_option maxHeartbeats 2000000 in
theorem dom_prog : PDom := fun x k e w ho _ _ _ _ hS => by
  obtain ⟨W0, hW0⟩ : ∃ W, (w.alloc (.cells (cel (sState x)) 49)).alloc (.cells (vs .u8 32 fun _ => 0) 24) = W := ⟨_, rfl⟩
  have r0 : W0.heap[w.heap.size]? = some (.cells (cel (sState x)) 49) := by rw [← hW0]; exact (heap_old (by simp)).trans (heap_new rfl)
  have r1 : W0.heap[w.heap.size + 1]? = some (.cells (vs .u8 32 fun _ => 0) 24) := by rw [← hW0]; exact heap_new (by simp)
  have hB0 : Below w.heap.size w W0 := by rw [← hW0]; exact ((Below.refl _ _).alloc (Nat.le_refl _) _).alloc (by simp) _
  have z1 : w.heap.size + 1 < W0.heap.size := some_ltK r1
  have l4 : (lvVer ⟨w.heap.size, 38, none⟩).run Tryd.prog W0 = .ok (.agg (vs .u8 4 x.f3.f1)) W0 := lvVer_mid (at4 r0)
  have zr := zero_root
  have zv := zero_Ver
  have v4 := svVer_newv W0 (fun _ => 0) x.f3.f1
  obtain ⟨W1, hW1⟩ : ∃ W, W0.alloc (.cells (vs .u8 4 x.f3.f1) 26) = W := ⟨_, rfl⟩
  rw [hW1] at v4
  have hE1 : Below W0.heap.size W0 W1 := by rw [← hW1]; exact (Below.refl _ _).alloc (Nat.le_refl _) _
  have g7 : W1.heap[W0.heap.size]? = some (.cells (vs .u8 4 x.f3.f1) 26) := by rw [← hW1]; exact heap_new rfl
  have r0' := (hE1.block _ (by omega)).trans r0
  have r1' := (hE1.block _ z1).trans r1
  have c42 := cS42 r0'
  have l3 : (lvVer ⟨w.heap.size, 34, none⟩).run Tryd.prog W1 = .ok (.agg (vs .u8 4 x.f3.f0)) W1 := lvVer_mid (at3 r0')
  have hB1 : Below w.heap.size w W1 := hB0.trans (hE1.mono hB0.size)
  obtain ⟨y7, e7⟩ : ∃ y, W0.heap.size = y := ⟨_, rfl⟩
  rw [e7] at v4 g7 z1
  have HW := hid hW0
  have HB1 := hid hB1
  by_cases he : e < x.f3.f2
  · have hdv : domV x k e = dmV k x.f3.f0 x.f1 := by unfold domV; rw [if_pos he]
    rw [hdv]
    have s3 := svVer_run g7 x.f3.f0
    obtain ⟨W2, hW2⟩ : ∃ W, W1.setRow y7 (vs .u8 4 x.f3.f0) = W := ⟨_, rfl⟩
    rw [hW2] at s3
    have g2 : W2.heap[y7]? = some (.cells (vs .u8 4 x.f3.f0) 26) := by rw [← hW2]; exact setRow_at g7
    have q0 : W2.heap[w.heap.size]? = some (.cells (cel (sState x)) 49) := by rw [← hW2, setRow_other (by omega)]; exact r0'
    have q1 : W2.heap[w.heap.size + 1]? = some (.cells (vs .u8 32 fun _ => 0) 24) := by rw [← hW2, setRow_other (by omega)]; exact r1'
    have hB2 : Below w.heap.size w W2 := by rw [← hW2]; exact below_row hB1 (by omega) _
    have l7 := lvVer_run g2
    have l1 : (lv24 ⟨w.heap.size, 1, none⟩).run Tryd.prog W2 = .ok (.agg (vs .u8 32 x.f1)) W2 := lv24_mid (at1 q0)
    have hd3 := domof16 k x.f3.f0 x.f1 W2 ho.o3.1 ho.o1 (hS.below hB2)
    generalize dmV k x.f3.f0 x.f1 = DM at hd3 ⊢
    generalize x.f3.f2 = E at c42 he
    generalize x.f3.f0 = V0 at l3 hd3 s3 l7
    generalize x.f3.f1 = V1 at l4 v4
    generalize x.f1 = G at l1 hd3
    have HD := hid hd3
    have HR := hid q1
    have HB2 := hid hB2
    clear hd3 hB0 hW0 r0 r1 ho hdv hS hB1 hB2 g7 g2 q0 q1 r0' r1' hE1 hW2
    go_enter Tryd.func38, Tryd.ntmps38
    go_upto_region 1 with fail
    rw [HW.out]
    clear HW zr
    obtain rfl := e7.symm
    go_upto_region 2 with fail
    have z1' := some_ltK HR.out
    clear l4 v4 zv
    go_wp2_with (go_at_call 60; refine HD.out.mono ?_; rintro e' w1 ⟨rfl, hb1⟩; have s1 := sv24_run ((hb1.block _ z1').trans HR.out) DM)
    exact ret24 6 (w.heap.size + 1) DM 24 rfl rfl rfl (setRow_at ((hb1.block _ z1').trans HR.out)) ⟨rfl, below_row (HB2.out.trans (hb1.mono HB2.out.size)) (Nat.le_succ _) _⟩
  · have hdv : domV x k e = dmV k x.f3.f1 x.f1 := by unfold domV; rw [if_neg he]
    rw [hdv]
    have l7 := lvVer_run g7
    have l1 : (lv24 ⟨w.heap.size, 1, none⟩).run Tryd.prog W1 = .ok (.agg (vs .u8 32 x.f1)) W1 := lv24_mid (at1 r0')
    have hd3 := domof16 k x.f3.f1 x.f1 W1 ho.o3.2.1 ho.o1 (hS.below hB1)
    generalize dmV k x.f3.f1 x.f1 = DM at hd3 ⊢
    generalize x.f3.f2 = E at c42 he
    generalize x.f3.f1 = V1 at l4 v4 l7 hd3
    generalize x.f1 = G at l1 hd3
    have HD := hid hd3
    have HR := hid r1'
    clear hd3 hB0 hW0 r0 r1 ho hdv hS hB1 g7 r0' r1' hE1 l3
    go_enter Tryd.func38, Tryd.ntmps38
    go_upto_region 1 with fail
    rw [HW.out]
    clear HW zr
    obtain rfl := e7.symm
    go_upto_region 2 with fail
    have z1' := some_ltK HR.out
    clear l4 v4 zv
    go_wp2_with (go_at_call 60; refine HD.out.mono ?_; rintro e' w1 ⟨rfl, hb1⟩; have s1 := sv24_run ((hb1.block _ z1').trans HR.out) DM)
    exact ret24 6 (w.heap.size + 1) DM 24 rfl rfl rfl (setRow_at ((hb1.block _ z1').trans HR.out)) ⟨rfl, below_row (HB1.out.trans (hb1.mono HB1.out.size)) (Nat.le_succ _) _⟩

set_option maxHeartbeats 1000000 in
theorem roo_prog : PRoo := fun a b w ha hb hS => by
  obtain ⟨W0, hW0⟩ : ∃ W, ((w.alloc (.cells (vs .u8 32 a) 24)).alloc (.cells (vs .u8 32 b) 24)).alloc (.cells (vs .u8 32 fun _ => 0) 24) = W := ⟨_, rfl⟩
  have r0 : W0.heap[w.heap.size]? = some (.cells (vs .u8 32 a) 24) := by rw [← hW0]; exact (heap_old (by simp <;> omega)).trans ((heap_old (by simp)).trans (heap_new rfl))
  have r1 : W0.heap[w.heap.size + 1]? = some (.cells (vs .u8 32 b) 24) := by rw [← hW0]; exact (heap_old (by simp)).trans (heap_new (by simp))
  have r2 : W0.heap[w.heap.size + 2]? = some (.cells (vs .u8 32 fun _ => 0) 24) := by rw [← hW0]; exact heap_new (by simp)
  have hB0 : Below w.heap.size w W0 := by rw [← hW0]; exact (((Below.refl _ _).alloc (Nat.le_refl _) _).alloc (by simp) _).alloc (by simp <;> omega) _
  have z2 : w.heap.size + 2 < W0.heap.size := some_ltK r2
  have la := lv24_run r0
  have lb := lv24_run r1
  have htw := two_tw a b W0 (hS.below hB0) ha hb
  have zr := zero_root
  generalize tw a b = X at htw ⊢
  have HB := hid hB0
  have HW := hid hW0
  have HR := hid r2
  have HT := hid htw
  clear htw hB0 hW0 r0 r1 r2 hS ha hb
  go_enter Tryd.func40, Tryd.ntmps40
  go_upto_region 1 with fail
  rw [HW.out]
  clear HW zr
  go_wp2_with (go_at_call 64; refine HT.out.mono ?_; rintro e' w1 ⟨rfl, hb1⟩; have s1 := sv24_run ((hb1.block _ z2).trans HR.out) X)
  exact ret24 4 (w.heap.size + 2) X 24 rfl rfl rfl (setRow_at ((hb1.block _ z2).trans HR.out)) ⟨rfl, below_row (HB.out.trans (hb1.mono HB.out.size)) (by omega) _⟩

set_option maxHeartbeats 4000000 in
theorem que_prog : PQue := fun a n cap f r s w hk hf hr hs hn hS => by
  obtain ⟨W0, hW0⟩ : ∃ W, ((w.alloc (.cells (vs .u8 32 r) 24)).alloc (.cells (vs .u8 96 s) 55)).alloc (.cells (vs .u8 32 fun _ => 0) 24) = W := ⟨_, rfl⟩
  have r0 : W0.heap[w.heap.size]? = some (.cells (vs .u8 32 r) 24) := by rw [← hW0]; exact (heap_old (by simp <;> omega)).trans ((heap_old (by simp)).trans (heap_new rfl))
  have r1 : W0.heap[w.heap.size + 1]? = some (.cells (vs .u8 96 s) 55) := by rw [← hW0]; exact (heap_old (by simp)).trans (heap_new (by simp))
  have r2 : W0.heap[w.heap.size + 2]? = some (.cells (vs .u8 32 fun _ => 0) 24) := by rw [← hW0]; exact heap_new (by simp)
  have hB0 : Below w.heap.size w W0 := by rw [← hW0]; exact (((Below.refl _ _).alloc (Nat.le_refl _) _).alloc (by simp) _).alloc (by simp <;> omega) _
  have z0 : w.heap.size + 2 < W0.heap.size := some_ltK r2
  obtain ⟨W1, hW1⟩ : ∃ W, W0.alloc (.cells (dg HW (fun _ => 0) 0) 139) = W := ⟨_, rfl⟩
  have g1 : W1.heap[W0.heap.size]? = some (.cells (dg HW (fun _ => 0) ((0 : Nat) : Int)) 139) := by rw [← hW1]; exact heap_new rfl
  have hB1 : Below W0.heap.size W0 W1 := by rw [← hW1]; exact (Below.refl _ _).alloc (Nat.le_refl _) _
  have z1 : W0.heap.size < W1.heap.size := some_ltK g1
  have hBw : Below w.heap.size w W1 := hB0.trans (hB1.mono hB0.size)
  have hnw := new_any HW W0 (hS.below hB0).1
  rw [hW1] at hnw
  have hS1 := hS.below hBw
  have hkw := hS.2.1
  have zk := zero_48
  have zr := zero_root
  have qb := qsF_bd hf hr hs
  have q1 := qs_one f r s n
  have q2 := qs_two f r s n
  have q3 := qs_three f r s n
  have b0 := (hB1.block _ (by omega : w.heap.size < W0.heap.size)).trans r0
  have b1 := (hB1.block _ (by omega : w.heap.size + 1 < W0.heap.size)).trans r1
  have b2 := (hB1.block _ z0).trans r2
  obtain ⟨g, eg⟩ : ∃ g, W0.heap.size = g := ⟨_, rfl⟩
  rw [eg] at hnw g1 z1 z0
  have eqv : qsV f n r s = shaV KW HW (qsF f n r s) (48 * n + 128) := rfl
  rw [eqv]
  generalize qsF f n r s = m at qb q1 q2 q3 ⊢
  have hwt : ∀ (W : World) (s' f' : Nat → Int) (i y : Nat), i < n → Dig KW HW m (48 * i) s' f' → W.heap[g]? = some (.cells (dg s' f' ((48 * i : Nat) : Int)) 139) → Kept g W1 W → W.heap[y]? = some (.cells (vs .u8 48 fun j => f (48 * i + j)) 44) → y ≠ g →
      Calls Tryd.prog 62 #[.pointer (some ⟨g, 0, none⟩), .slice (some ⟨y, 0, none⟩) 48 48] W fun e w' => e = .returned (.tuple #[]) ∧ Kept g W w' ∧ ∃ s' f', Dig KW HW m (48 * (i + 1)) s' f' ∧ w'.heap[g]? = some (.cells (dg s' f' ((48 * (i + 1) : Nat) : Int)) 139) := fun W s' f' i y hi hd hg hkp hy hyg => by
    have h := write_any KW HW m g s' f' (48 * i) 48 48 y 0 W hd hg (hkp.tab hS1.2 (by omega)) (by omega) (fun j hj => by rw [Nat.zero_add, q1 _ (by omega)]; exact row_int hy j hj) (fun j hj => qb _ (by omega)) hyg (some_ltK hy) (by omega) (by omega) (by omega)
    rw [show 48 * (i + 1) = 48 * i + 48 by omega]
    exact h
  have hw2 : ∀ (W : World) (s' f' : Nat → Int), Dig KW HW m (48 * n) s' f' → W.heap[g]? = some (.cells (dg s' f' ((48 * n : Nat) : Int)) 139) → Kept g W1 W →
      Calls Tryd.prog 62 #[.pointer (some ⟨g, 0, none⟩), .slice (some ⟨w.heap.size, 0, none⟩) 32 32] W fun e w' => e = .returned (.tuple #[]) ∧ Kept g W w' ∧ ∃ s' f', Dig KW HW m (48 * n + 32) s' f' ∧ w'.heap[g]? = some (.cells (dg s' f' ((48 * n + 32 : Nat) : Int)) 139) := fun W s' f' hd hg hkp =>
    write_any KW HW m g s' f' (48 * n) 32 32 w.heap.size 0 W hd hg (hkp.tab hS1.2 (by omega)) (by omega) (fun j hj => by rw [Nat.zero_add, q2 _ hj]; exact row_int ((hkp.block _ (by omega) (by omega)).trans b0) j hj) (fun j hj => qb _ (by omega)) (by omega) (by have := hkp.size; omega) (by omega) (by omega) (by omega)
  have hw3 : ∀ (W : World) (s' f' : Nat → Int), Dig KW HW m (48 * n + 32) s' f' → W.heap[g]? = some (.cells (dg s' f' ((48 * n + 32 : Nat) : Int)) 139) → Kept g W1 W →
      Calls Tryd.prog 62 #[.pointer (some ⟨g, 0, none⟩), .slice (some ⟨w.heap.size + 1, 0, none⟩) 96 96] W fun e w' => e = .returned (.tuple #[]) ∧ Kept g W w' ∧ ∃ s' f', Dig KW HW m (48 * n + 32 + 96) s' f' ∧ w'.heap[g]? = some (.cells (dg s' f' ((48 * n + 32 + 96 : Nat) : Int)) 139) := fun W s' f' hd hg hkp =>
    write_any KW HW m g s' f' (48 * n + 32) 96 96 (w.heap.size + 1) 0 W hd hg (hkp.tab hS1.2 (by omega)) (by omega) (fun j hj => by rw [Nat.zero_add, q3]; exact row_int ((hkp.block _ (by omega) (by omega)).trans b1) j hj) (fun j hj => qb _ (by omega)) (by omega) (by have := hkp.size; omega) (by omega) (by omega) (by omega)
  have hds : ∀ (W : World) (s' f' : Nat → Int), Dig KW HW m (48 * n + 32 + 96) s' f' → W.heap[g]? = some (.cells (dg s' f' ((48 * n + 32 + 96 : Nat) : Int)) 139) → Kept g W1 W → Calls Tryd.prog 63 #[.pointer (some ⟨g, 0, none⟩)] W fun e w' => e = .returned (.agg (vs .u8 32 (shaV KW HW m (48 * n + 128)))) ∧ Below W.heap.size W w' := fun W s' f' hd hg hkp => dsum_any KW HW m g s' f' (48 * n + 32 + 96) W hd hg (hkp.tab hS1.2 (by omega)) (by omega)
  have hd0 : Dig KW HW m (48 * 0) HW (fun _ => 0) := dig_new KW HW m HW_bd
  generalize shaV KW HW m (48 * n + 128) = S1 at hds ⊢
  have HW0 := hid hW0
  have HBW := hid hBw
  have HNW := hid hnw
  have HKY := hid hk
  have HR1 := hid b2
  have HG1 := hid g1
  have HWT := hid hwt
  have HW2 := hid hw2
  have HW3 := hid hw3
  have HDS := hid hds
  have HD0 := hid hd0
  have HZ := hid (And.intro z0 z1)
  clear hW0 hB0 r0 r1 r2 hW1 hB1 hBw hnw hk hS1 hS hkw b0 b1 b2 g1 hwt hw2 hw3 hds hd0 z1 z0 hf hr hs eg qb q1 q2 q3 eqv
  go_enter Tryd.func39, Tryd.ntmps39
  go_upto_region 1 with fail
  rw [HW0.out]
  clear HW0
  go_upto_region 2 with (go_at_call 61; refine HNW.out.mono ?_; rintro e wn ⟨rfl, ewn⟩; replace ewn := ewn.symm; subst ewn)
  go_wp2
  go_loopg [13] n (fun k c wr => ∃ (i : Nat) (s' f' : Nat → Int), c = .int .i64 i ∧ i ≤ n ∧ n - i ≤ k ∧ Dig KW HW m (48 * i) s' f' ∧ wr.heap[g]? = some (.cells (dg s' f' ((48 * i : Nat) : Int)) 139) ∧ Kept g W1 wr)
  case atStart => exact ⟨0, HW, fun _ => 0, rfl, by omega, by omega, HD0.out, HG1.out, Kept.refl _ _⟩
  case round =>
    clear HG1 HD0
    obtain ⟨i, s', f', rfl, hi, hk, hd, hg, hkp⟩ := hrel
    by_cases hin : i < n
    · have h1 : (i : Int) < (n : Int) := by omega
      have hwg : g < wr.heap.size := some_ltK hg
      rcases HKY.out with ⟨_, h0, _⟩ | ⟨_, _, h0⟩ | ⟨b, off, ea, hlc, hbl, hc⟩
      · omega
      · omega
      subst ea
      have hbg : b ≠ g := by have := HZ.out; omega
      have ix := fun W => ixKy_run W b off n cap i hin
      have lk : (lvKy ⟨b, off + 48 * i, none⟩).run Tryd.prog wr = .ok (.agg (vs .u8 48 fun j => f (48 * i + j))) wr := lvKy_mid fun j hj => by
        rw [Nat.add_assoc]
        exact (hkp.cell (by have := HBW.out.size; omega) hbg).trans ((below_cell HBW.out hbl).trans (hc (48 * i + j) (by omega)))
      obtain ⟨P, eP⟩ : ∃ P, off + 48 * i = P := ⟨_, rfl⟩
      rw [eP] at lk
      simp only [eP] at ix
      have sv := ky_new wr (fun _ => 0) (fun j => f (48 * i + j))
      obtain ⟨W2, hW2⟩ : ∃ W, wr.alloc (.cells (vs .u8 48 fun j => f (48 * i + j)) 44) = W := ⟨_, rfl⟩
      rw [hW2] at sv
      have r2 : W2.heap[wr.heap.size]? = some (.cells (vs .u8 48 fun j => f (48 * i + j)) 44) := by rw [← hW2]; exact heap_new rfl
      have hE2 : Below wr.heap.size wr W2 := by rw [← hW2]; exact (Below.refl _ _).alloc (Nat.le_refl _) _
      have hg2 := (hE2.block _ hwg).trans hg
      have hkp2 : Kept g W1 W2 := hkp.trans (Kept.ofBelow hE2)
      have hwt := HWT.out W2 s' f' i wr.heap.size hin hd hg2 hkp2 r2 (by omega)
      have HWTT := hid hwt
      have HKP := hid hkp2
      obtain ⟨y, ey⟩ : ∃ y, wr.heap.size = y := ⟨_, rfl⟩
      rw [ey] at sv HWTT
      generalize (fun j => f (48 * i + j)) = KF at lk sv
      clear hd hg hkp hc hbl eP r2 hE2 hg2 hkp2 hwt hbg hwg hW2
      go_upto_region 5 with fail
      clear sv lk ix ey
      go_wp2_with (go_at_call 62; refine HWTT.out.mono ?_; rintro e w2 ⟨rfl, hkp3, s3, f3, hd3, hg3⟩)
      go_roundg (n - (i + 1))
      case measure => omega
      case rel => exact ⟨i + 1, s3, f3, by simp, by omega, Nat.le_refl _, hd3, hg3, HKP.out.trans hkp3⟩
    · obtain rfl : i = n := by omega
      have hA := HW2.out wr s' f' hd hg hkp
      have HA := hid hA
      have HKP := hid hkp
      clear hA hd hg hkp HW2 HWT HKY HNW zk zr hk
      go_upto_region 8 with (go_at_call 62; refine HA.out.mono ?_; rintro e w2 ⟨rfl, hkp2, s2, f2, hd2, hg2⟩)
      have hk2 := HKP.out.trans hkp2
      have hA3 := HW3.out w2 s2 f2 hd2 hg2 hk2
      have HA3 := hid hA3
      have HK2 := hid hk2
      clear hA3 hk2 hd2 hg2 hkp2 HA HKP HW3
      go_upto_region 9 with (go_at_call 62; refine HA3.out.mono ?_; rintro e w3 ⟨rfl, hkp3, s3, f3, hd3, hg3⟩)
      have hk3 := HK2.out.trans hkp3
      have hA4 := HDS.out w3 s3 f3 hd3 hg3 hk3
      have hBr : Below w.heap.size w w3 := HBW.out.trans (hk3.below (by have := HZ.out; omega) (by have := HBW.out.size; omega))
      have t2 := (hk3.block _ (by have := HZ.out; omega) (by have := HZ.out; omega)).trans HR1.out
      have HA4 := hid hA4
      have HBR := hid hBr
      have HT2 := hid t2
      clear hA4 hBr t2 hk3 hkp3 hd3 hg3 HA3 HK2 HDS
      go_wp2_with (go_at_call 63; refine HA4.out.mono ?_; rintro e' w4 ⟨rfl, hb4⟩; have s1 := sv24_run ((hb4.block _ (some_ltK HT2.out)).trans HT2.out) S1)
      exact ret24 6 (w.heap.size + 2) S1 24 rfl rfl rfl (setRow_at ((hb4.block _ (some_ltK HT2.out)).trans HT2.out)) ⟨rfl, below_row (HBR.out.trans (hb4.mono HBR.out.size)) (by omega) _⟩

set_option maxHeartbeats 2000000 in
theorem index16 (q f : Nat → Int) (a : Option Addr) (n cap : Nat) (w : World) (hr : Rts w a n cap f) (hn : n ≤ 9223372036854775807) :
    Calls Tryd.prog 65 #[.slice a n cap, .agg (vs .u8 32 q)] w fun e' w' => ((gdB q f n = true ∧ e' = .returned (.int .i64 (-1))) ∨ (gdB q f n = false ∧ ∃ k : Nat, e' = .returned (.int .i64 k))) ∧ Below w.heap.size w w' := by
  obtain ⟨W0, hW0⟩ : ∃ W, w.alloc (.cells (vs .u8 32 q) 24) = W := ⟨_, rfl⟩
  have r0 : W0.heap[w.heap.size]? = some (.cells (vs .u8 32 q) 24) := by rw [← hW0]; exact heap_new rfl
  have hB0 : Below w.heap.size w W0 := by rw [← hW0]; exact (Below.refl _ _).alloc (Nat.le_refl _) _
  have z0 : w.heap.size < W0.heap.size := some_ltK r0
  have hr0 := hr.below hB0
  have hlq : ∀ W : World, Below W0.heap.size W0 W → (lv24 ⟨w.heap.size, 0, none⟩).run Tryd.prog W = .ok (.agg (vs .u8 32 q)) W := fun W h => lv24_run ((h.block _ z0).trans r0)
  have HB := hid hB0
  have HW := hid hW0
  have HRR := hid hr0
  have HLQ := hid hlq
  clear hB0 hW0 r0 hr hr0 hlq
  go_enter Tryd.func65, Tryd.ntmps65
  go_upto_region 1 with fail
  rw [HW.out]
  clear HW
  go_wp2
  go_loopw [8] (fun i wr => ∃ k : Nat, k ≤ n ∧ i = .int .i64 k ∧ gdB q f k = true ∧ Below W0.heap.size W0 wr) (fun i _ => n - (intOf i).toNat)
  case atStart => exact ⟨0, by omega, rfl, gdB_zero q f, Below.refl _ _⟩
  case round =>
    obtain ⟨k, hk, rfl, hg, hb⟩ := hrel
    by_cases hlt : k < n
    · have k1 : (k : Int) < (n : Int) := by omega
      have k2 : IntKind.i64.wrap ((k : Int) + 1) = (k : Int) + 1 := by rw [IntKind.wrap_i64]; omega
      obtain ⟨b1, o1, hb1, hx1, hc1⟩ := HRR.out.at k hlt
      have hla : ∀ W, Below W0.heap.size W0 W → (lv24 ⟨b1, o1, none⟩).run Tryd.prog W = .ok (.agg (vs .u8 32 (rt32 f k))) W := fun W h => lv24_mid (fun j hj => (below_cell h hb1).trans (hc1 j hj))
      have hst := gdB_succ q f k
      have hgt := @gdB_true q f n
      obtain ⟨R, eR⟩ : ∃ R, rt32 f k = R := ⟨_, rfl⟩
      rw [eR] at hla hst
      rw [eqR_comm] at hst
      have HIX := hid hx1
      have HLA := hid hla
      have HST := hid hst
      have HGT := hid hgt
      have HG := hid hg
      have HER := hid eR
      have HDR := hid hb.drew
      clear hx1 hla hst hgt hg hb hc1 hb1 eR
      cases he : eqR q R
      · have HEQ := hid he
        go_upto_region 4 with fail
        refine wp_region_noPanic ?_
        refine wp_region_held_drew (S := fun W => Below W0.heap.size W0 W) (by kernel_rfl) (HDR.out) (fun hHeld => ?_)
        refine tk 0 (v := ?v112) ?y112 hHeld ?r112
        case y112 => intro w hSw; have ld0 := HLQ.out w hSw; go_simp; try with_reducible rfl
        refine tk 1 (v := ?v113) ?y113 hHeld ?r113
        case y113 => intro w hSw; go_simp; try with_reducible rfl
        refine tk 2 (v := ?v114) ?y114 hHeld ?r114
        case y114 => intro w hSw; go_simp; try with_reducible rfl
        refine tk 3 (v := ?v115) ?y115 hHeld ?r115
        case y115 => intro w hSw; have ld0 := HIX.out w; go_simp; try with_reducible rfl
        refine tk 4 (v := ?v116) ?y116 hHeld ?r116
        case y116 => intro w hSw; have ld0 := HLA.out w hSw; go_simp; try with_reducible rfl
        try simp only [Act.put, List.setIfInBounds_toArray, List.set_cons_zero, List.set_cons_succ, Array.toArray_toList, List.getElem_toArray, List.getElem_cons_zero, List.getElem_cons_succ]
        refine wpAnyH_take (i := 5) rfl (by kernel_rfl) (by kernel_rfl) (by kernel_rfl) (fun _ _ _ h => h) (yields_eqo (by rfl) _ _ _ rfl q R rfl rfl) hHeld ?_
        rw [HEQ.out]
        try simp only [Act.put, List.setIfInBounds_toArray, List.set_cons_zero, List.set_cons_succ, Array.toArray_toList, List.getElem_toArray, List.getElem_cons_zero, List.getElem_cons_succ]
        refine wpAnyH_done (by kernel_rfl) ?_ _
        refine NoPanic.normal ?_
        go_wp2
        go_roundw
        case rel => exact ⟨k + 1, by omega, by go_num, by rw [HST.out, HG.out, HEQ.out]; rfl, HDR.out⟩
        case measure => simp [intOf]; omega
      · have HEQ := hid he
        have hF : gdB q f n = false := by
          cases h : gdB q f n
          · rfl
          · have h2 := HGT.out.1 h k hlt
            rw [HER.out, eqR_comm, HEQ.out] at h2
            cases h2
        have HF := hid hF
        clear hF
        go_upto_region 4 with fail
        refine wp_region_noPanic ?_
        refine wp_region_held_drew (S := fun W => Below W0.heap.size W0 W) (by kernel_rfl) (HDR.out) (fun hHeld => ?_)
        refine tk 0 (v := ?v117) ?y117 hHeld ?r117
        case y117 => intro w hSw; have ld0 := HLQ.out w hSw; go_simp; try with_reducible rfl
        refine tk 1 (v := ?v118) ?y118 hHeld ?r118
        case y118 => intro w hSw; go_simp; try with_reducible rfl
        refine tk 2 (v := ?v119) ?y119 hHeld ?r119
        case y119 => intro w hSw; go_simp; try with_reducible rfl
        refine tk 3 (v := ?v120) ?y120 hHeld ?r120
        case y120 => intro w hSw; have ld0 := HIX.out w; go_simp; try with_reducible rfl
        refine tk 4 (v := ?v121) ?y121 hHeld ?r121
        case y121 => intro w hSw; have ld0 := HLA.out w hSw; go_simp; try with_reducible rfl
        try simp only [Act.put, List.setIfInBounds_toArray, List.set_cons_zero, List.set_cons_succ, Array.toArray_toList, List.getElem_toArray, List.getElem_cons_zero, List.getElem_cons_succ]
        refine wpAnyH_take (i := 5) rfl (by kernel_rfl) (by kernel_rfl) (by kernel_rfl) (fun _ _ _ h => h) (yields_eqo (by rfl) _ _ _ rfl q R rfl rfl) hHeld ?_
        rw [HEQ.out]
        try simp only [Act.put, List.setIfInBounds_toArray, List.set_cons_zero, List.set_cons_succ, Array.toArray_toList, List.getElem_toArray, List.getElem_cons_zero, List.getElem_cons_succ]
        refine wpAnyH_done (by kernel_rfl) ?_ _
        refine NoPanic.normal ?_
        go_wp2
        go_ret
        exact ⟨.inr ⟨HF.out, k, rfl⟩, HB.out.trans (HDR.out.mono HB.out.size)⟩
    · obtain rfl : k = n := by omega
      have HBB := hid hb
      have HG := hid hg
      clear hg hb
      go_wp2
      go_ret
      exact ⟨.inl ⟨HG.out, rfl⟩, HB.out.trans (HBB.out.mono HB.out.size)⟩

set_option maxHeartbeats 1000000 in
theorem contains16 (q f : Nat → Int) (a : Option Addr) (n cap : Nat) (w : World) (hr : Rts w a n cap f) (hn : n ≤ 9223372036854775807) :
    Calls Tryd.prog 41 #[.slice a n cap, .agg (vs .u8 32 q)] w fun e' w' => e' = .returned (.bool (!gdB q f n)) ∧ Below w.heap.size w w' := by
  obtain ⟨W0, hW0⟩ : ∃ W, w.alloc (.cells (vs .u8 32 q) 24) = W := ⟨_, rfl⟩
  have r0 : W0.heap[w.heap.size]? = some (.cells (vs .u8 32 q) 24) := by rw [← hW0]; exact heap_new rfl
  have hB0 : Below w.heap.size w W0 := by rw [← hW0]; exact (Below.refl _ _).alloc (Nat.le_refl _) _
  have lq := lv24_run r0
  have hix := index16 q f a n cap W0 (hr.below hB0) hn
  have HB := hid hB0
  have HW := hid hW0
  cases hg : gdB q f n
  · have HI := hid (hix.mono (R' := fun e' w' => (∃ k : Nat, e' = .returned (.int .i64 k)) ∧ Below W0.heap.size W0 w') (by
      rintro e' w' ⟨⟨h, _⟩ | ⟨_, h⟩, hb⟩
      · rw [hg] at h; cases h
      · exact ⟨h, hb⟩))
    clear hix hr hB0 hW0 r0 hg
    go_enter Tryd.func41, Tryd.ntmps41
    go_upto_region 1 with fail
    rw [HW.out]
    clear HW
    go_wp2_with (go_at_call 65; refine HI.out.mono ?_; rintro e' w1 ⟨⟨k, rfl⟩, hb1⟩; have k0 : (0 : Int) ≤ (k : Int) := by omega)
    go_ret
    exact ⟨rfl, HB.out.trans (hb1.mono HB.out.size)⟩
  · have HI := hid (hix.mono (R' := fun e' w' => e' = .returned (.int .i64 (-1)) ∧ Below W0.heap.size W0 w') (by
      rintro e' w' ⟨⟨_, h⟩ | ⟨h, _⟩, hb⟩
      · exact ⟨h, hb⟩
      · rw [hg] at h; cases h))
    clear hix hr hB0 hW0 r0 hg
    go_enter Tryd.func41, Tryd.ntmps41
    go_upto_region 1 with fail
    rw [HW.out]
    clear HW
    go_wp2_with (go_at_call 65; refine HI.out.mono ?_; rintro e' w1 ⟨rfl, hb1⟩)
    go_ret
    exact ⟨rfl, HB.out.trans (hb1.mono HB.out.size)⟩

set_option maxHeartbeats 1000000 in
theorem goo_prog : PGoo := fun q f a n cap w hr hn => by
  obtain ⟨W0, hW0⟩ : ∃ W, w.alloc (.cells (vs .u8 32 q) 24) = W := ⟨_, rfl⟩
  have r0 : W0.heap[w.heap.size]? = some (.cells (vs .u8 32 q) 24) := by rw [← hW0]; exact heap_new rfl
  have hB0 : Below w.heap.size w W0 := by rw [← hW0]; exact (Below.refl _ _).alloc (Nat.le_refl _) _
  have lq := lv24_run r0
  have hix := contains16 q f a n cap W0 (hr.below hB0) hn
  generalize gdB q f n = GD at hix ⊢
  have HB := hid hB0
  have HW := hid hW0
  have HI := hid hix
  clear hix hr hB0 hW0 r0
  go_enter Tryd.func18, Tryd.ntmps18
  go_upto_region 1 with fail
  rw [HW.out]
  clear HW
  go_wp2_with (go_at_call 41; refine HI.out.mono ?_; rintro e' w1 ⟨rfl, hb1⟩)
  go_ret
  exact ⟨by simp, HB.out.trans (hb1.mono HB.out.size)⟩

end Go.Proofs.YtficlakgameglaaDoor
