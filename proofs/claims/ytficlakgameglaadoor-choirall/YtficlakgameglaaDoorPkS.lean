/-
  What the program's Sync and Proposer answer.
-/

import Derived.Test.YtficlakgameglaaDoorPkP
namespace Go.Proofs.YtficlakgameglaaDoor

open Go.RowKit

set_option linter.unusedVariables false

set_option linter.unusedSimpArgs false

set_option maxRecDepth 20000

attribute [local go_sem ↓] lvState_eq svState_eq bdState_eq lvValidator_eq svValidator_eq ixValidator_eq sv24_eq lv24_eq sv8_eq

set_option maxHeartbeats 4000000 in
theorem prop_prog : PProp := fun x w ho hx hS => by
  obtain ⟨W0, hW0⟩ : ∃ W, w.alloc (.cells (cel (sState x)) 49) = W := ⟨_, rfl⟩
  have r0 : W0.heap[w.heap.size]? = some (.cells (cel (sState x)) 49) := by rw [← hW0]; exact heap_new rfl
  have hB0 : Below w.heap.size w W0 := by rw [← hW0]; exact (Below.refl _ _).alloc (Nat.le_refl _) _
  have z0 : w.heap.size < W0.heap.size := some_ltK r0
  have hld : ∀ W : World, Below W0.heap.size W0 W → (lvState ⟨w.heap.size, 0, none⟩).run Tryd.prog W = .ok (.agg (cel (sState x))) W := fun W h => lvState_run ((h.block _ z0).trans r0)
  have hc2 : ∀ W : World, Below W0.heap.size W0 W → W.cell? ⟨w.heap.size, 33, none⟩ = some (.int .u64 x.f2) := fun W h => cS2 ((h.block _ z0).trans r0)
  have c2 := hc2 W0 (Below.refl _ _)
  have hx0 := hx.below hB0
  have hS0 := hS.below hB0
  have hsl := hx.sl
  have hse : ∀ W, Below W0.heap.size W0 W → Calls Tryd.prog 67 #[.agg (cel (sState x)), .int .u64 (x.f2 / 4), .int .i64 0] W fun e' w' => e' = .returned (.agg (vs .u8 32 (seedV x (x.f2 / 4) 0))) ∧ Below W.heap.size W w' := fun W h => seed_any x (x.f2 / 4) 0 W ho (by omega) (by omega) (hS0.below h)
  have hsb : ∀ j, j < 32 → 0 ≤ seedV x (x.f2 / 4) 0 j ∧ seedV x (x.f2 / 4) 0 j < 256 := fun j _ => seedV_bd ..
  have hsm : ∀ (W : World), Below W0.heap.size W0 W → Calls Tryd.prog 66 #[.agg (vs .u8 32 (seedV x (x.f2 / 4) 0)), .int .u64 x.f2] W fun e w' => e = .returned (.agg (vs .u8 32 (prS x))) ∧ Below W.heap.size W w' := fun W h => sumof_any _ x.f2 W hsb (by omega) (by omega) (hS0.below h)
  have hpb : ∀ j, j < 32 → 0 ≤ prS x j ∧ prS x j < 256 := fun j _ => shaV_bd ..
  have hdw : ∀ (W : World), Below W0.heap.size W0 W → Calls Tryd.prog 68 #[.agg (cel (sState x)), .int .u64 (x.f2 / 4), .agg (vs .u8 32 (prS x)), .int .i64 1] W fun e' w' => ∃ a c, e' = .returned (.tuple #[.slice a (prL x).length c, .int .i64 (prE x)]) ∧ Nml w' a (prL x) ∧ Below W.heap.size W w' := fun W h => draw_any x (x.f2 / 4) (prS x) 1 W (hx0.below h) hpb (by omega) (by omega) (hS0.below h)
  have hd1 := dw_one x.f11.z (acE x (x.f2 / 4)) (prS x) 1
  have hV : prV x = (prL x).getD 0 0 := rfl
  rw [show dwE x.f11.z (acE x (x.f2 / 4)) (prS x) 1 = prE x from rfl, show dwL x.f11.z (acE x (x.f2 / 4)) (prS x) 1 = prL x from rfl] at hd1
  obtain ⟨SD, eSD⟩ : ∃ SD, seedV x (x.f2 / 4) 0 = SD := ⟨_, rfl⟩
  rw [eSD] at hse hsm
  generalize prL x = PL at hdw hd1 hV
  generalize prE x = PE at hdw hd1 ⊢
  generalize prV x = PV at hV ⊢
  generalize prS x = PS at hsm hdw
  generalize acE x (x.f2 / 4) = L at hd1
  obtain ⟨E, eE⟩ : ∃ E, x.f2 / 4 = E := ⟨_, rfl⟩
  rw [eE] at hse hdw
  obtain ⟨s0, s1⟩ := hsl
  generalize x.f2 = T at hc2 c2 hsm eE s0 s1
  have qd : IntKind.u64.wrap (T.tdiv 4) = E := by rw [Int.tdiv_eq_ediv_of_nonneg s0, IntKind.wrap_u64]; omega
  have hBd : Below W0.heap.size W0 W0.drew := (Below.refl _ _).drew
  have HB := hid hB0
  have HW := hid hW0
  have HLD := hid hld
  have HC2 := hid hc2
  have HSE := hid hse
  have HSM := hid hsm
  have HDW := hid hdw
  have HD1 := hid (And.intro hd1 hV)
  clear hB0 hW0 hld hc2 hse hsm hdw hd1 hV hx hx0 ho hS hS0 r0 hsb hpb eSD
  go_enter Tryd.func42, Tryd.ntmps42
  go_upto_region 1 with fail
  rw [HW.out]
  clear HW
  go_upto_region 2 with fail
  clear c2 eE qd s0 s1
  go_cut [5] from 8 (fun u wx => ∃ y, u = .pointer (some ⟨y, 0, none⟩) ∧ wx.heap[y]? = some (.cells (vs .u8 32 PS) 24) ∧ Below W0.heap.size W0 wx)
  case first =>
    refine wp_region_noPanic ?_
    refine wp_region_held_drew (S := fun W => Below W0.heap.size W0 W) (by kernel_rfl) (hBd) (fun hHeld => ?_)
    refine tk 0 (v := ?v9) ?y9 hHeld ?r9
    case y9 => intro w hSw; have ld := HLD.out w hSw; go_simp; try with_reducible rfl
    refine tk 1 (v := ?v10) ?y10 hHeld ?r10
    case y10 => intro w hSw; go_simp; try with_reducible rfl
    refine tk 3 (v := ?v11) ?y11 hHeld ?r11
    case y11 => intro w hSw; go_simp; try with_reducible rfl
    refine tk 4 (v := ?v12) ?y12 hHeld ?r12
    case y12 => intro w hSw; have ld := HC2.out w hSw; go_simp; try with_reducible rfl
    try simp only [Act.put, List.setIfInBounds_toArray, List.set_cons_zero, List.set_cons_succ, Array.toArray_toList, List.getElem_toArray, List.getElem_cons_zero, List.getElem_cons_succ]
    refine wpAnyH_ready (rs := [2, 6]) (by kernel_rfl) (by simp) ?_
    refine AllReadyH.cons rfl (fun K hK => ?_) (AllReadyH.cons rfl (fun K hK => ?_) AllReadyH.nil)
    · go_simp
      refine (HSE.out _ hBd).mono ?_
      rintro e' x1 ⟨rfl, hd1⟩
      dsimp only
      have hc1 : Below W0.heap.size W0 x1 := (hBd).trans (hd1.mono (hBd).size)
      refine hK.out _ _ (hc1) (fun hHeld => ?_)
      clear hK K
      try simp only [Act.put, List.setIfInBounds_toArray, List.set_cons_zero, List.set_cons_succ, Array.toArray_toList, List.getElem_toArray, List.getElem_cons_zero, List.getElem_cons_succ]
      refine wpAnyH_ready (rs := [5, 6]) (by kernel_rfl) (by simp) ?_
      refine AllReadyH.cons rfl (fun K hK => ?_) (AllReadyH.cons rfl (fun K hK => ?_) AllReadyH.nil)
      · go_simp
        refine (HSM.out _ hc1).mono ?_
        rintro e' x2 ⟨rfl, hd2⟩
        dsimp only
        have hc2 : Below W0.heap.size W0 x2 := (hc1).trans (hd2.mono (hc1).size)
        refine hK.out _ _ (hc2) (fun hHeld => ?_)
        clear hK K
        try simp only [Act.put, List.setIfInBounds_toArray, List.set_cons_zero, List.set_cons_succ, Array.toArray_toList, List.getElem_toArray, List.getElem_cons_zero, List.getElem_cons_succ]
        refine wpAnyH_ready (rs := [6]) (by kernel_rfl) (by simp) ?_
        refine AllReadyH.cons rfl (fun K hK => ?_) AllReadyH.nil
        have zr := zero_root
        go_simp
        have hc3 : Below W0.heap.size W0 (x2.alloc (.cells (vs .u8 32 fun _ => 0) 24)) := (hc2).alloc (hc2).size _
        have ry3 : (x2.alloc (.cells (vs .u8 32 fun _ => 0) 24)).heap[x2.heap.size]? = some (.cells (vs .u8 32 fun _ => 0) 24) := heap_new (by simp)
        have hy3 : W0.heap.size ≤ x2.heap.size := (hc2).size
        refine hK.out _ _ (hc3) (fun hHeld => ?_)
        clear hK K
        try simp only [Act.put, List.setIfInBounds_toArray, List.set_cons_zero, List.set_cons_succ, Array.toArray_toList, List.getElem_toArray, List.getElem_cons_zero, List.getElem_cons_succ]
        refine wpAnyH_ready (rs := [7]) (by kernel_rfl) (by simp) ?_
        refine AllReadyH.cons rfl (fun K hK => ?_) AllReadyH.nil
        have v3 := sv24_run ry3 PS
        go_simp
        have hc4 : Below W0.heap.size W0 _ := below_row (hc3) hy3 (vs .u8 32 PS)
        refine hK.out _ _ (hc4) (fun hHeld => ?_)
        clear hK K
        try simp only [Act.put, List.setIfInBounds_toArray, List.set_cons_zero, List.set_cons_succ, Array.toArray_toList, List.getElem_toArray, List.getElem_cons_zero, List.getElem_cons_succ]
        refine wpAnyH_done (by kernel_rfl) ?_ _
        refine NoPanic.normal ?_
        go_wp2
        go_meet
        exact ⟨_, rfl, setRow_at ry3, hc4⟩
      · have zr := zero_root
        go_simp
        have hc5 : Below W0.heap.size W0 (x1.alloc (.cells (vs .u8 32 fun _ => 0) 24)) := (hc1).alloc (hc1).size _
        have ry5 : (x1.alloc (.cells (vs .u8 32 fun _ => 0) 24)).heap[x1.heap.size]? = some (.cells (vs .u8 32 fun _ => 0) 24) := heap_new (by simp)
        have hy5 : W0.heap.size ≤ x1.heap.size := (hc1).size
        refine hK.out _ _ (hc5) (fun hHeld => ?_)
        clear hK K
        try simp only [Act.put, List.setIfInBounds_toArray, List.set_cons_zero, List.set_cons_succ, Array.toArray_toList, List.getElem_toArray, List.getElem_cons_zero, List.getElem_cons_succ]
        refine wpAnyH_ready (rs := [5]) (by kernel_rfl) (by simp) ?_
        refine AllReadyH.cons rfl (fun K hK => ?_) AllReadyH.nil
        go_simp
        refine (HSM.out _ hc5).mono ?_
        rintro e' x6 ⟨rfl, hd6⟩
        dsimp only
        have hc6 : Below W0.heap.size W0 x6 := (hc5).trans (hd6.mono (hc5).size)
        have ry6 := (hd6.block _ (some_ltK ry5)).trans ry5
        refine hK.out _ _ (hc6) (fun hHeld => ?_)
        clear hK K
        try simp only [Act.put, List.setIfInBounds_toArray, List.set_cons_zero, List.set_cons_succ, Array.toArray_toList, List.getElem_toArray, List.getElem_cons_zero, List.getElem_cons_succ]
        refine wpAnyH_ready (rs := [7]) (by kernel_rfl) (by simp) ?_
        refine AllReadyH.cons rfl (fun K hK => ?_) AllReadyH.nil
        have v3 := sv24_run ry6 PS
        go_simp
        have hc7 : Below W0.heap.size W0 _ := below_row (hc6) hy5 (vs .u8 32 PS)
        refine hK.out _ _ (hc7) (fun hHeld => ?_)
        clear hK K
        try simp only [Act.put, List.setIfInBounds_toArray, List.set_cons_zero, List.set_cons_succ, Array.toArray_toList, List.getElem_toArray, List.getElem_cons_zero, List.getElem_cons_succ]
        refine wpAnyH_done (by kernel_rfl) ?_ _
        refine NoPanic.normal ?_
        go_wp2
        go_meet
        exact ⟨_, rfl, setRow_at ry6, hc7⟩
    · have zr := zero_root
      go_simp
      have hc8 : Below W0.heap.size W0 (W0.drew.alloc (.cells (vs .u8 32 fun _ => 0) 24)) := (hBd).alloc (hBd).size _
      have ry8 : (W0.drew.alloc (.cells (vs .u8 32 fun _ => 0) 24)).heap[W0.heap.size]? = some (.cells (vs .u8 32 fun _ => 0) 24) := heap_new (by simp)
      have hy8 : W0.heap.size ≤ W0.heap.size := (hBd).size
      refine hK.out _ _ (hc8) (fun hHeld => ?_)
      clear hK K
      try simp only [Act.put, List.setIfInBounds_toArray, List.set_cons_zero, List.set_cons_succ, Array.toArray_toList, List.getElem_toArray, List.getElem_cons_zero, List.getElem_cons_succ]
      refine wpAnyH_ready (rs := [2]) (by kernel_rfl) (by simp) ?_
      refine AllReadyH.cons rfl (fun K hK => ?_) AllReadyH.nil
      go_simp
      refine (HSE.out _ hc8).mono ?_
      rintro e' x9 ⟨rfl, hd9⟩
      dsimp only
      have hc9 : Below W0.heap.size W0 x9 := (hc8).trans (hd9.mono (hc8).size)
      have ry9 := (hd9.block _ (some_ltK ry8)).trans ry8
      refine hK.out _ _ (hc9) (fun hHeld => ?_)
      clear hK K
      try simp only [Act.put, List.setIfInBounds_toArray, List.set_cons_zero, List.set_cons_succ, Array.toArray_toList, List.getElem_toArray, List.getElem_cons_zero, List.getElem_cons_succ]
      refine wpAnyH_ready (rs := [5]) (by kernel_rfl) (by simp) ?_
      refine AllReadyH.cons rfl (fun K hK => ?_) AllReadyH.nil
      go_simp
      refine (HSM.out _ hc9).mono ?_
      rintro e' x10 ⟨rfl, hd10⟩
      dsimp only
      have hc10 : Below W0.heap.size W0 x10 := (hc9).trans (hd10.mono (hc9).size)
      have ry10 := (hd10.block _ (some_ltK ry9)).trans ry9
      refine hK.out _ _ (hc10) (fun hHeld => ?_)
      clear hK K
      try simp only [Act.put, List.setIfInBounds_toArray, List.set_cons_zero, List.set_cons_succ, Array.toArray_toList, List.getElem_toArray, List.getElem_cons_zero, List.getElem_cons_succ]
      refine wpAnyH_ready (rs := [7]) (by kernel_rfl) (by simp) ?_
      refine AllReadyH.cons rfl (fun K hK => ?_) AllReadyH.nil
      have v3 := sv24_run ry10 PS
      go_simp
      have hc11 : Below W0.heap.size W0 _ := below_row (hc10) hy8 (vs .u8 32 PS)
      refine hK.out _ _ (hc11) (fun hHeld => ?_)
      clear hK K
      try simp only [Act.put, List.setIfInBounds_toArray, List.set_cons_zero, List.set_cons_succ, Array.toArray_toList, List.getElem_toArray, List.getElem_cons_zero, List.getElem_cons_succ]
      refine wpAnyH_done (by kernel_rfl) ?_ _
      refine NoPanic.normal ?_
      go_wp2
      go_meet
      exact ⟨_, rfl, setRow_at ry10, hc11⟩
  case rest =>
    obtain ⟨y, rfl, ry, hc⟩ := hcut
    have l1 := HLD.out wc hc
    have l2 := lv24_run ry
    have hdw := HDW.out wc hc
    have HDWW := hid hdw
    have HC := hid hc
    clear HLD HC2 HSE HSM HDW hBd hdw hc ry
    go_upto_region 4 with (go_at_call 68; refine HDWW.out.mono ?_; rintro e' w4 ⟨a, c, rfl, hn, hb⟩)
    have hE : Below w.heap.size w w4 := HB.out.trans ((HC.out.trans (hb.mono HC.out.size)).mono HB.out.size)
    obtain ⟨h1, hV⟩ := HD1.out
    rcases h1 with ⟨e0, e1, _⟩ | ⟨e0, e1⟩
    · subst e0
      rcases hn with e2 | ⟨b, o, ea, _, hc⟩
      · omega
      subst ea
      have c0 : w4.cell? ⟨b, o, none⟩ = some (.int .u64 PV) := by
        have := hc 0 (by omega)
        rw [Nat.add_zero] at this
        rw [hV]
        exact this
      have HE := hid hE
      rw [e1]
      clear hc hV hE HB HD1 hb e1 l1 l2 HC HDWW
      go_wp2
      go_ret2
      exact ⟨rfl, HE.out⟩
    · subst e0
      rw [e1] at hV
      have HV := hid hV
      have HE := hid hE
      clear hV hE HB HD1 hb hn l1 l2 HC HDWW
      go_wp2
      go_ret2
      exact ⟨by rw [HV.out]; rfl, HE.out⟩

end Go.Proofs.YtficlakgameglaaDoor
