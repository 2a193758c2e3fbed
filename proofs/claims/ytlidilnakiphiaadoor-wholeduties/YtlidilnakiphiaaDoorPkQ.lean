/-
  What the program's Sum and Next answer.
-/

import Derived.Test.YtlidilnakiphiaaDoorPkS
import Derived.Test.YtlidilnakiphiaaDoorPkH
import Derived.Test.YtlidilnakiphiaaDoorPkJ
import Derived.Test.YtlidilnakiphiaaDoorPkK
namespace Go.Proofs.YtlidilnakiphiaaDoor

open Go.RowKit

set_option linter.unusedVariables false

set_option linter.unusedSimpArgs false

set_option maxRecDepth 20000

theorem kyNew (W : World) (o c : Nat → Int) : (svKy ⟨W.heap.size, 0, none⟩ (.agg (vs .u8 48 c))).run Tryd.prog (W.alloc (.cells (vs .u8 48 o) 44)) = .ok () (W.alloc (.cells (vs .u8 48 c) 44)) :=
  run_storeVar_new W 44 _ _ (by rw [vs_size]; kernel_rfl) (by rw [vs_size, vs_size]) (vs_one _ _ _)

attribute [local go_sem ↓] ixKy_eq lvKy_eq svKy_eq sv24_eq lv24_eq

set_option maxHeartbeats 4000000 in
theorem sum_prog : PSum := fun a n cap f w hk hf hn hS => by
  obtain ⟨W0, hW0⟩ : ∃ W, w.alloc (.cells (vs .u8 48 fun _ => 0) 44) = W := ⟨_, rfl⟩
  have r0 : W0.heap[w.heap.size]? = some (.cells (vs .u8 48 fun _ => 0) 44) := by rw [← hW0]; exact heap_new rfl
  have hB0 : Below w.heap.size w W0 := by rw [← hW0]; exact (Below.refl _ _).alloc (Nat.le_refl _) _
  have z0 : w.heap.size < W0.heap.size := some_ltK r0
  obtain ⟨W1, hW1⟩ : ∃ W, W0.alloc (.cells (dg HW (fun _ => 0) 0) 99) = W := ⟨_, rfl⟩
  have g1 : W1.heap[W0.heap.size]? = some (.cells (dg HW (fun _ => 0) ((0 : Nat) : Int)) 99) := by rw [← hW1]; exact heap_new rfl
  have hB1 : Below W0.heap.size W0 W1 := by rw [← hW1]; exact (Below.refl _ _).alloc (Nat.le_refl _) _
  have z1 : W0.heap.size < W1.heap.size := some_ltK g1
  have hBw : Below w.heap.size w W1 := hB0.trans (hB1.mono hB0.size)
  have hnw := new_any HW W0 (hS.below hB0).1
  rw [hW1] at hnw
  have hS1 := hS.below hBw
  have hkw := hS.2.1
  have zk := zero_48
  have zr := zero_root
  obtain ⟨g, eg⟩ : ∃ g, W0.heap.size = g := ⟨_, rfl⟩
  rw [eg] at hnw g1 z1
  have hgw : w.heap.size < g := by omega
  have r1 : W1.heap[w.heap.size]? = some (.cells (vs .u8 48 fun _ => 0) 44) := (hB1.block _ z0).trans r0
  have hwt : ∀ (W : World) (s' f' : Nat → Int) (i y : Nat), i < n → Dig KW HW f (48 * i) s' f' → W.heap[g]? = some (.cells (dg s' f' ((48 * i : Nat) : Int)) 99) → Kept g W1 W → W.heap[y]? = some (.cells (vs .u8 48 fun j => f (48 * i + j)) 44) → y ≠ g →
      Calls Tryd.prog 34 #[.pointer (some ⟨g, 0, none⟩), .slice (some ⟨y, 0, none⟩) 48 48] W fun e w' => e = .returned (.tuple #[]) ∧ Kept g W w' ∧ ∃ s' f', Dig KW HW f (48 * (i + 1)) s' f' ∧ w'.heap[g]? = some (.cells (dg s' f' ((48 * (i + 1) : Nat) : Int)) 99) := fun W s' f' i y hi hd hg hkp hy hyg => by
    have h := write_any KW HW f g s' f' (48 * i) 48 48 y 0 W hd hg (hkp.tab hS1.2 (by omega)) (by omega) (fun j hj => by rw [Nat.zero_add]; exact row_int hy j hj) (fun j hj => hf _ (by omega)) hyg (some_ltK hy) (by omega) (by omega) (by omega)
    rw [show 48 * (i + 1) = 48 * i + 48 by omega]
    exact h
  have hds : ∀ (W : World) (s' f' : Nat → Int), Dig KW HW f (48 * n) s' f' → W.heap[g]? = some (.cells (dg s' f' ((48 * n : Nat) : Int)) 99) → Kept g W1 W → Calls Tryd.prog 35 #[.pointer (some ⟨g, 0, none⟩)] W fun e w' => e = .returned (.agg (vs .u8 32 (shaV KW HW f (48 * n)))) ∧ Below W.heap.size W w' := fun W s' f' hd hg hkp => dsum_any KW HW f g s' f' (48 * n) W hd hg (hkp.tab hS1.2 (by omega)) (by omega)
  have hA2 : ∀ (W : World) y, Below w.heap.size w W → W.heap[y]? = some (.cells (vs .u8 32 (shaV KW HW f (48 * n))) 24) → Calls Tryd.prog 26 #[.slice (some ⟨y, 0, none⟩) 32 32] W fun e w' => e = .returned (.agg (vs .u8 32 (shaV KW HW (shaV KW HW f (48 * n)) 32))) ∧ Below W.heap.size W w' := fun W y h hy =>
    sum_any KW HW (shaV KW HW f (48 * n)) 32 32 y 0 W (hS.below h).1 (hS.below h).2 HW_bd (fun j hj => by rw [Nat.zero_add]; exact row_int hy j hj) (fun j _ => shaV_bd ..) (some_ltK hy) (by omega) (by omega) (by omega)
  have hd0 : Dig KW HW f (48 * 0) HW (fun _ => 0) := dig_new KW HW f HW_bd
  have hSm : ∀ j, smV f n j = if j < 32 then shaV KW HW f (48 * n) j else shaV KW HW (shaV KW HW f (48 * n)) 32 (j - 32) := fun _ => rfl
  generalize smV f n = SM at hSm ⊢
  generalize shaV KW HW f (48 * n) = S1 at hds hA2 hSm
  generalize shaV KW HW S1 32 = S2 at hA2 hSm
  have HW0 := hid hW0
  have HBW := hid hBw
  have HNW := hid hnw
  have HKY := hid hk
  have HR1 := hid r1
  have HG1 := hid g1
  have HWT := hid hwt
  have HDS := hid hds
  have HA2 := hid hA2
  have HD0 := hid hd0
  have HSM := hid hSm
  have HZ := hid (And.intro hgw z1)
  have HZ0 := hid (And.intro hB1.size z0)
  clear hW0 hB0 r0 hW1 hB1 hBw hnw hk hS1 hS hkw r1 g1 hwt hds hA2 hd0 hSm hgw z1 hf eg z0
  go_enter Tryd.func24, Tryd.ntmps24
  go_upto_region 1 with fail
  rw [HW0.out]
  clear HW0
  go_upto_region 2 with (go_at_call 33; refine HNW.out.mono ?_; rintro e wn ⟨rfl, ewn⟩; replace ewn := ewn.symm; subst ewn)
  go_wp2
  go_loopg [12] n (fun k c wr => ∃ (i : Nat) (s' f' : Nat → Int), c = .int .i64 i ∧ i ≤ n ∧ n - i ≤ k ∧ Dig KW HW f (48 * i) s' f' ∧ wr.heap[g]? = some (.cells (dg s' f' ((48 * i : Nat) : Int)) 99) ∧ Kept g W1 wr)
  case atStart => exact ⟨0, HW, fun _ => 0, rfl, by omega, by omega, HD0.out, HG1.out, Kept.refl _ _⟩
  case round =>
    clear HG1 HD0
    obtain ⟨i, s', f', rfl, hi, hk, hd, hg, hkp⟩ := hrel
    by_cases hin : i < n
    · have h1 : (i : Int) < (n : Int) := by omega
      have hwg : g < wr.heap.size := some_ltK hg
      rcases HKY.out with ⟨_, h0, _⟩ | ⟨_, _, h0⟩ | ⟨b, off, ea, hlc, hbl, hc⟩
      · omega
      · omega
      subst ea
      have hbg : b ≠ g := by have := HZ.out; omega
      have ix := fun W => ixKy_run W b off n cap i hin
      have lk : (lvKy ⟨b, off + 48 * i, none⟩).run Tryd.prog wr = .ok (.agg (vs .u8 48 fun j => f (48 * i + j))) wr := lvKy_mid fun j hj => by
        rw [Nat.add_assoc]
        exact (hkp.cell (by have := HBW.out.size; omega) hbg).trans ((below_cell HBW.out hbl).trans (hc (48 * i + j) (by omega)))
      obtain ⟨P, eP⟩ : ∃ P, off + 48 * i = P := ⟨_, rfl⟩
      rw [eP] at lk
      simp only [eP] at ix
      have sv := kyNew wr (fun _ => 0) (fun j => f (48 * i + j))
      obtain ⟨W2, hW2⟩ : ∃ W, wr.alloc (.cells (vs .u8 48 fun j => f (48 * i + j)) 44) = W := ⟨_, rfl⟩
      rw [hW2] at sv
      have r2 : W2.heap[wr.heap.size]? = some (.cells (vs .u8 48 fun j => f (48 * i + j)) 44) := by rw [← hW2]; exact heap_new rfl
      have hE2 : Below wr.heap.size wr W2 := by rw [← hW2]; exact (Below.refl _ _).alloc (Nat.le_refl _) _
      have hg2 := (hE2.block _ hwg).trans hg
      have hkp2 : Kept g W1 W2 := hkp.trans (Kept.ofBelow hE2)
      have hwt := HWT.out W2 s' f' i wr.heap.size hin hd hg2 hkp2 r2 (by omega)
      have HWTT := hid hwt
      have HKP := hid hkp2
      obtain ⟨y, ey⟩ : ∃ y, wr.heap.size = y := ⟨_, rfl⟩
      rw [ey] at sv HWTT
      generalize (fun j => f (48 * i + j)) = KF at lk sv
      clear hd hg hkp hc hbl eP r2 hE2 hg2 hkp2 hwt hbg hwg hW2
      go_upto_region 5 with fail
      clear sv lk ix ey
      go_wp2_with (go_at_call 34; refine HWTT.out.mono ?_; rintro e w2 ⟨rfl, hkp3, s3, f3, hd3, hg3⟩)
      go_roundg (n - (i + 1))
      case measure => omega
      case rel => exact ⟨i + 1, s3, f3, by simp, by omega, Nat.le_refl _, hd3, hg3, HKP.out.trans hkp3⟩
    · obtain rfl : i = n := by omega
      have hds := HDS.out wr s' f' hd hg hkp
      have hBr : Below w.heap.size w wr := HBW.out.trans (hkp.below (by have := HZ.out; omega) (by have := HBW.out.size; omega))
      have r1 := (hkp.block _ (by have := HZ.out; omega) (by have := HZ.out; omega)).trans HR1.out
      have v3 := fun W => sv24_newv W (fun _ => 0) S1
      have v4 := fun W => sv24_newv W (fun _ => 0) S2
      have HDSS := hid hds
      have HBR := hid hBr
      have HR := hid r1
      clear hds hBr r1 hd hg hkp HDS HWT HKY HNW HBW HR1 hk
      go_upto_region 8 with (go_at_call 35; refine HDSS.out.mono ?_; rintro e' w1 ⟨rfl, hb1⟩)
      obtain ⟨W3, hW3⟩ : ∃ W, w1.alloc (.cells (vs .u8 32 S1) 24) = W := ⟨_, rfl⟩
      rw [hW3]
      have r3 : W3.heap[w1.heap.size]? = some (.cells (vs .u8 32 S1) 24) := by rw [← hW3]; exact heap_new rfl
      have hE3 : Below wr.heap.size wr W3 := by rw [← hW3]; exact hb1.alloc hb1.size _
      have hB3 : Below w.heap.size w W3 := HBR.out.trans (hE3.mono HBR.out.size)
      have r0 := (hE3.block _ (some_ltK HR.out)).trans HR.out
      have y5g : w.heap.size < w1.heap.size := by have := some_ltK HR.out; have := hb1.size; omega
      obtain ⟨y5, e5⟩ : ∃ y, w1.heap.size = y := ⟨_, rfl⟩
      rw [e5] at r3 y5g ⊢
      have hA2 := HA2.out W3 y5 hB3 r3
      have HAB := hid hA2
      have HB3 := hid hB3
      have R3 := hid r3
      have R0 := hid r0
      clear hA2 hB3 r3 r0 hW3 e5 hb1 hE3 HDSS HA2 HBR HR
      go_upto_region 9 with (go_at_call 26; refine HAB.out.mono ?_; rintro e' w2 ⟨rfl, hb2⟩)
      obtain ⟨W4, hW4⟩ : ∃ W, w2.alloc (.cells (vs .u8 32 S2) 24) = W := ⟨_, rfl⟩
      rw [hW4]
      have r4 : W4.heap[w2.heap.size]? = some (.cells (vs .u8 32 S2) 24) := by rw [← hW4]; exact heap_new rfl
      have hE4 : Below W3.heap.size W3 W4 := by rw [← hW4]; exact hb2.alloc hb2.size _
      have hz2 := hb2.size
      obtain ⟨W5, hW5⟩ : ∃ W, W4.alloc (.cells (vs .u8 48 fun _ => 0) 44) = W := ⟨_, rfl⟩
      have r5 : W5.heap[W4.heap.size]? = some (.cells (vs .u8 48 fun _ => 0) 44) := by rw [← hW5]; exact heap_new rfl
      have hE5 : Below W4.heap.size W4 W5 := by rw [← hW5]; exact (Below.refl _ _).alloc (Nat.le_refl _) _
      have hE35 : Below W3.heap.size W3 W5 := hE4.trans (hE5.mono hE4.size)
      have r3 := (hE35.block _ (some_ltK R3.out)).trans R3.out
      have r0 := (hE35.block _ (some_ltK R0.out)).trans R0.out
      replace r4 := (hE5.block _ (some_ltK r4)).trans r4
      have hB5 : Below w.heap.size w W5 := HB3.out.trans (hE35.mono HB3.out.size)
      have q6 : w2.heap.size < W4.heap.size := by rw [← hW4]; simp
      have q5 : y5 < W4.heap.size := by have := some_ltK R3.out; omega
      have q7 : w.heap.size < W4.heap.size := by omega
      obtain ⟨y6, e6⟩ : ∃ y, w2.heap.size = y := ⟨_, rfl⟩
      rw [e6] at r4 q6 ⊢
      have HW5 := hid hW5
      have HF := hid (And.intro r5 (And.intro r3 (And.intro r4 (And.intro r0 hB5))))
      clear r5 r3 r4 r0 hB5 hE5 hE35 hE4 hW4 hW5 e6 hb2 hz2 HAB HB3 R3 R0 v3 v4 zr
      go_upto_region 10 with fail
      rw [HW5.out]
      obtain ⟨y7, e7⟩ : ∃ y, W4.heap.size = y := ⟨_, rfl⟩
      rw [e7] at HF q5 q6 q7 ⊢
      clear HW5 e7 zk
      obtain ⟨r5, r3, r4, r0, hB5⟩ := HF.out
      clear HF
      have hcp1 := copy_to W5.drew y7 48 (fun _ => 0) S1 0 32 ⟨y5, 0, none⟩ 32 32 48 48 44 r5 (by omega) rfl (fun j hj => by rw [addr_add, Nat.zero_add]; exact row_int r3 j hj)
      obtain ⟨W6, hW6⟩ : ∃ W, W5.drew.setRow y7 (vs .u8 48 (over (fun _ => 0) S1 0 32)) = W := ⟨_, rfl⟩
      rw [hW6] at hcp1
      have s5 : W6.heap[y7]? = some (.cells (vs .u8 48 (over (fun _ => 0) S1 0 32)) 44) := by rw [← hW6]; exact setRow_at (w := W5.drew) r5
      have s4 : W6.heap[y6]? = some (.cells (vs .u8 32 S2) 24) := by rw [← hW6, setRow_other (by omega)]; exact r4
      have s0 : W6.heap[w.heap.size]? = some (.cells (vs .u8 48 fun _ => 0) 44) := by rw [← hW6, setRow_other (by omega)]; exact r0
      have hB6 : Below w.heap.size w W6 := by rw [← hW6]; exact below_row hB5.drew (by omega) _
      have HCP := hid hcp1
      clear hcp1 hW6 r5 r3 r4 r0 hB5
      have hcp2 := copy_to W6.drew y7 48 (over (fun _ => 0) S1 0 32) S2 32 16 ⟨y6, 0, none⟩ 32 32 16 16 44 s5 (by omega) rfl (fun j hj => by rw [addr_add, Nat.zero_add]; exact row_int s4 j (by omega))
      obtain ⟨W7, hW7⟩ : ∃ W, W6.drew.setRow y7 (vs .u8 48 (over (over (fun _ => 0) S1 0 32) S2 32 16)) = W := ⟨_, rfl⟩
      rw [hW7] at hcp2
      have t5 : W7.heap[y7]? = some (.cells (vs .u8 48 SM) 44) := by
        rw [← hW7, setRow_at (w := W6.drew) s5]
        refine congrArg (fun c => some (Obj.cells c 44)) (vs_congr fun j hj => ?_)
        rw [HSM.out]
        unfold over
        by_cases h : j < 32
        · rw [if_neg (by omega), if_pos (by omega), if_pos h, Nat.sub_zero]
        · rw [if_pos (by omega), if_neg h]
      have t0 : W7.heap[w.heap.size]? = some (.cells (vs .u8 48 fun _ => 0) 44) := by rw [← hW7, setRow_other (by omega)]; exact s0
      have hB7 : Below w.heap.size w W7 := by rw [← hW7]; exact below_row hB6.drew (by omega) _
      have HCP2 := hid hcp2
      have HT := hid (And.intro t5 (And.intro t0 hB7))
      clear hcp2 hW7 s5 s4 s0 hB6 t5 t0 hB7
      refine wp_region_noPanic ?_
      refine wp_region_held_drew (S := fun _ => True) (by kernel_rfl) (trivial) (fun hHeld => ?_)
      refine tk 0 (v := ?v1) ?y1 hHeld ?r1
      case y1 => intro w hSw; go_simp; try with_reducible rfl
      refine tk 1 (v := ?v2) ?y2 hHeld ?r2
      case y2 => intro w hSw; go_simp; try with_reducible rfl
      try simp only [Act.put, List.setIfInBounds_toArray, List.set_cons_zero, List.set_cons_succ, Array.toArray_toList, List.getElem_toArray, List.getElem_cons_zero, List.getElem_cons_succ]
      refine wpAnyH_ready (rs := [2]) (by kernel_rfl) (by simp) ?_
      refine AllReadyH.cons rfl (fun K hK => ?_) AllReadyH.nil
      refine step_copy_is (by rfl) _ _ 39 39 (by rfl) _ _ _ _ (by rfl) (by rfl) HCP.out ?_
      refine hK.out _ _ trivial (fun hHeld => ?_)
      clear hK K
      try simp only [Act.put, List.setIfInBounds_toArray, List.set_cons_zero, List.set_cons_succ, Array.toArray_toList, List.getElem_toArray, List.getElem_cons_zero, List.getElem_cons_succ]
      refine wpAnyH_done (by kernel_rfl) ?_ _
      refine NoPanic.normal ?_
      clear hHeld HCP
      go_upto_region 11 with fail
      refine wp_region_noPanic ?_
      refine wp_region_held_drew (S := fun _ => True) (by kernel_rfl) (trivial) (fun hHeld => ?_)
      refine tk 0 (v := ?v3) ?y3 hHeld ?r3
      case y3 => intro w hSw; go_simp; try with_reducible rfl
      refine tk 1 (v := ?v4) ?y4 hHeld ?r4
      case y4 => intro w hSw; go_simp; try with_reducible rfl
      try simp only [Act.put, List.setIfInBounds_toArray, List.set_cons_zero, List.set_cons_succ, Array.toArray_toList, List.getElem_toArray, List.getElem_cons_zero, List.getElem_cons_succ]
      refine wpAnyH_ready (rs := [2]) (by kernel_rfl) (by simp) ?_
      refine AllReadyH.cons rfl (fun K hK => ?_) AllReadyH.nil
      refine step_copy_is (by rfl) _ _ 39 39 (by rfl) _ _ _ _ (by rfl) (by rfl) HCP2.out ?_
      refine hK.out _ _ trivial (fun hHeld => ?_)
      clear hK K
      try simp only [Act.put, List.setIfInBounds_toArray, List.set_cons_zero, List.set_cons_succ, Array.toArray_toList, List.getElem_toArray, List.getElem_cons_zero, List.getElem_cons_succ]
      refine wpAnyH_done (by kernel_rfl) ?_ _
      refine NoPanic.normal ?_
      clear hHeld HCP2
      have lk := lvKy_run HT.out.1
      have sk := svKy_run HT.out.2.1 SM
      go_wp2
      exact retKy 2 w.heap.size SM 44 rfl rfl rfl (setRow_at HT.out.2.1) ⟨rfl, below_row HT.out.2.2 (Nat.le_refl _) _⟩

attribute [local go_sem ↓] lvState_eq svState_eq bdState_eq lvValidator_eq svValidator_eq ixValidator_eq lvCommittee_eq svCommittee_eq bdC15_eq ixKy_eq lvKy_eq svKy_eq ix45_eq

set_option maxHeartbeats 4000000 in
theorem next_prog : PNext := fun x w ho hx hS => by
  obtain ⟨W0, hW0⟩ : ∃ W, (w.alloc (.cells (cel (sState x)) 49)).alloc (.cells (cel (sCommittee oCommittee)) 47) = W := ⟨_, rfl⟩
  have r0 : W0.heap[w.heap.size]? = some (.cells (cel (sState x)) 49) := by rw [← hW0]; exact (heap_old (by simp)).trans (heap_new rfl)
  have r1 : W0.heap[w.heap.size + 1]? = some (.cells (cel (sCommittee oCommittee)) 47) := by rw [← hW0]; exact heap_new (by simp)
  have hB0 : Below w.heap.size w W0 := by rw [← hW0]; exact ((Below.refl _ _).alloc (Nat.le_refl _) _).alloc (by simp) _
  have z1 : w.heap.size + 1 < W0.heap.size := (Array.getElem?_eq_some_iff.1 r1).1
  have l0 : (lvState ⟨w.heap.size, 0, none⟩).run Tryd.prog W0 = .ok (.agg (cel (sState x))) W0 := lvState_run r0
  have hx0 := hx.below hB0
  have hS0 := hS.below hB0
  have hsy := sync_prog x W0 ho hx0 hS0
  have hcs : ∀ W : World, Below W0.heap.size W0 W → W.cell? ⟨w.heap.size, 721, none⟩ = some (.slice x.f11.a x.f11.n x.f11.c) := fun W h => cS11 ((h.block _ (by omega)).trans r0)
  have hel := hx0.el
  have hnb := hx.nb
  have zc := zeroCommittee
  have bc := bdC15_0
  have h1 := sy_one x
  have HB := hid hB0
  have HW := hid hW0
  have HR1 := hid r1
  rcases h1 with ⟨hE, hL, hV⟩ | ⟨hE, hL⟩
  · have hN : nxC x = ⟨⟨kyF x⟩, smV (kyF x) 8⟩ := by unfold nxC; rw [if_pos hE]
    unfold NxA
    rw [hN, hE]
    rw [hE, hL] at hsy
    have hkf : ∀ j, kyF x j = (x.f11.z ((syL x).getD (j / 48) 0).toNat).f0 (j % 48) := fun _ => rfl
    have hkb : ∀ j, j < 384 → 0 ≤ kyF x j ∧ kyF x j < 256 := fun j hj => by
      obtain ⟨V, e1, e2⟩ := hV (j / 48) (by omega)
      rw [hkf, e1, Int.toNat_natCast]
      exact (ho.o11 V e2).1 (j % 48) (Nat.mod_lt _ (by omega))
    have hsm : ∀ (W : World) y, Below W0.heap.size W0 W → Kys W (some ⟨y, 0, none⟩) 8 8 (kyF x) → Calls Tryd.prog 24 #[.slice (some ⟨y, 0, none⟩) 8 8] W fun e' w' => e' = .returned (.agg (vs .u8 48 (smV (kyF x) 8))) ∧ Below W.heap.size W w' := fun W y h hk => sum_prog (some ⟨y, 0, none⟩) 8 8 (kyF x) W hk hkb (by omega) (hS0.below h)
    generalize smV (kyF x) 8 = SM at hsm ⊢
    generalize kyF x = KF at hkf hsm ⊢
    generalize syL x = SL at hsy hL hV hkf
    generalize x.f11.a = A at hcs hel
    generalize x.f11.n = n at hcs hel hV hnb
    generalize x.f11.c = C at hcs
    generalize x.f11.z = z at hel hkf
    have HSY := hid hsy
    have HCC := hid hcs
    have HEL := hid hel
    have HV := hid hV
    have HKF := hid hkf
    have HSM := hid hsm
    have HSL := hid hL
    clear hsy hcs hel hV hkf hkb hsm hL hx hx0 ho hS hS0 r0 r1 hB0 hW0 hN hE
    go_enter Tryd.func10, Tryd.ntmps10
    go_upto_region 1 with fail
    rw [HW.out]
    clear HW
    go_upto_region 4 with (go_at_call 9; refine HSY.out.mono ?_; rintro e' w1 ⟨a1, c1, rfl, hn1, hb1⟩)
    obtain ⟨W2, hW2⟩ : ∃ W, w1.alloc (.cells (cel (sCommittee oCommittee)) 47) = W := ⟨_, rfl⟩
    have r2 : W2.heap[w1.heap.size]? = some (.cells (vs .u8 432 fun _ => 0) 47) := by
      rw [← hW2, heap_new rfl, cel_C]
      exact congrArg (fun c => some (Obj.cells c 47)) (vs_congr fun j hj => by split <;> rfl)
    have hB2 : Below w1.heap.size w1 W2 := by rw [← hW2]; exact (Below.refl _ _).alloc (Nat.le_refl _) _
    have HW2 := hid hW2
    have H2 := hid (And.intro r2 hB2)
    have HN1 := hid hn1
    have HB1 := hid hb1
    clear hW2 r2 hB2 hn1 hb1 HSY l0
    go_upto_region 5 with fail
    rw [HW2.out]
    obtain ⟨y6, e6⟩ : ∃ y, w1.heap.size = y := ⟨_, rfl⟩
    have E6 := hid e6
    rw [e6] at H2 ⊢
    clear HW2 e6 zc bc
    go_wp2
    go_loopg [20] 9 (fun k c wr => ∃ i : Nat, c = .int .i64 i ∧ i ≤ 8 ∧ 8 - i < k ∧ wr.heap[y6]? = some (.cells (vs .u8 432 fun j => if j < 48 * i then KF j else 0) 47) ∧ Below w1.heap.size w1 wr)
    case atStart => exact ⟨0, rfl, by omega, by omega, by rw [H2.out.1]; exact congrArg (fun c => some (Obj.cells c 47)) (vs_congr fun j hj => by rw [if_neg (by omega)]), by rw [E6.out]; exact H2.out.2⟩
    case round =>
      clear H2
      obtain ⟨i, rfl, hi, hk, hr, hw⟩ := hrel
      have hwW : Below W0.heap.size W0 wr := HB1.out.trans (hw.mono HB1.out.size)
      by_cases h8 : i < 8
      · have h8z : (i : Int) < 8 := by omega
        obtain ⟨V, eV, hVn⟩ := HV.out i h8
        rcases HEL.out with h0 | ⟨b, off, ea, hbl, hc⟩
        · omega
        rcases HN1.out with h0 | ⟨b1, o1, ea1, hbl1, hc1⟩
        · have := HSL.out; omega
        subst ea ea1
        have hup : ∀ W : World, Below w1.heap.size w1 W → Below W0.heap.size W0 W := fun W h => HB1.out.trans (h.mono HB1.out.size)
        have hcs : ∀ W : World, Below w1.heap.size w1 W → W.cell? ⟨w.heap.size, 721, none⟩ = some (.slice (some ⟨b, off, none⟩) n C) := fun W h => HCC.out W (hup W h)
        have hcl : ∀ W : World, Below w1.heap.size w1 W → W.cell? ⟨b1, o1 + i, none⟩ = some (.int .u64 (V : Int)) := fun W h => by rw [← eV]; exact (below_cell h hbl1).trans (hc1 i (by rw [HSL.out]; exact h8))
        have hix := fun W => ixValidator_u W b off n C V hVn
        have hi5 := fun W => ix45_run W y6 0 i h8
        rw [Nat.zero_add] at hi5
        have hlk : ∀ W : World, Below w1.heap.size w1 W → (lvKy ⟨b, off + 86 * V, none⟩).run Tryd.prog W = .ok (.agg (vs .u8 48 (z V).f0)) W := fun W h => lvKy_mid fun j hj => (rangeAt_below (hc V hVn) hbl (hup W h)) j _ (by
          show (celL (sValidator (z V)))[j]? = _
          exact seg_by0 _ _ _ j hj)
        have hsk := svKy_mid (w := wr) hr (48 * i) (z V).f0 (by rw [vs_size]; omega)
        have hrow : ((wr).setCells y6 (48 * i) (bl (z V).f0 48)).heap[y6]? = some (.cells (vs .u8 432 fun j => if j < 48 * (i + 1) then KF j else 0) 47) := by
          rw [setCells_row _ _ (show wr.heap[y6]? = _ from hr), put_bl]
          refine congrArg (fun c => some (Obj.cells c 47)) (vs_congr fun j hj => ?_)
          by_cases h : 48 * i ≤ j ∧ j < 48 * i + 48
          · rw [if_pos h, if_pos (by omega), HKF.out, show j / 48 = i by omega, eV, Int.toNat_natCast, show j - (48 * i) = j % 48 by omega]
          · rw [if_neg h]
            by_cases h' : j < 48 * i
            · rw [if_pos h', if_pos (by omega)]
            · rw [if_neg h', if_neg (by omega)]
        have hbe : Below w1.heap.size w1 ((wr).setCells y6 (48 * i) (bl (z V).f0 48)) := below_cells hw (by rw [E6.out]; exact Nat.le_refl _) _ _
        obtain ⟨O, eO⟩ : ∃ O, off + 86 * V = O := ⟨_, rfl⟩
        simp only [eO] at hlk hix
        have c1 := hcs wr hw
        have c2 := hcl wr hw
        have c3 := hlk wr hw
        have vn : (V : Int) < (n : Int) := by omega
        have HRW := hid (And.intro hrow hbe)
        clear hcs hcl hlk hrow hbe hr hw hwW hc hbl hc1 hbl1 eV eO hup
        go_wp2
        go_roundg (8 - i)
        case measure => omega
        case rel => exact ⟨i + 1, by simp, by omega, by omega, HRW.out.1, HRW.out.2⟩
      · obtain rfl : i = 8 := by omega
        have hky : Kys wr (some ⟨y6, 0, none⟩) 8 8 KF := .inr (.inr ⟨y6, 0, rfl, by omega, (Array.getElem?_eq_some_iff.1 hr).1, fun j hj => by
          rw [Nat.zero_add, row_int hr j (by omega), if_pos (by omega)]⟩)
        have hsm := HSM.out wr y6 hwW hky
        have HSS := hid hsm
        have HRR := hid hr
        have HWW := hid hwW
        clear hky hsm hr hw hwW HSM HKF HV HCC HEL HN1 hk
        go_upto_region 11 with (go_at_call 24; refine HSS.out.mono ?_; rintro e' w3 ⟨rfl, hb3⟩; have r3 := (hb3.block _ (Array.getElem?_eq_some_iff.1 HRR.out).1).trans HRR.out; have sk := svKy_mid r3 384 SM (by rw [vs_size]; omega))
        have r4 := setCells_row (bl SM 48) 384 r3
        rw [put_bl, show (vs .u8 432 fun j => if 384 ≤ j ∧ j < 384 + 48 then SM (j - 384) else if j < 48 * 8 then KF j else 0) = cel (sCommittee ⟨⟨KF⟩, SM⟩) from by
          rw [cel_C]
          refine vs_congr fun j hj => ?_
          by_cases h : j < 384
          · rw [if_neg (by omega), if_pos (by omega)]
            exact (if_pos h).symm
          · rw [if_pos (by omega)]
            exact (if_neg h).symm] at r4
        have hz3 := (Array.getElem?_eq_some_iff.1 r3).1
        have hB3 : Below W0.heap.size W0 (w3.setCells y6 384 (bl SM 48)) := below_cells (HWW.out.trans (hb3.mono HWW.out.size)) (by have := HB1.out.size; have := E6.out; omega) _ _
        generalize w3.setCells y6 384 (bl SM 48) = W4 at r4 hB3 ⊢
        have lc := lvC_run r4
        have r1 := (hB3.block _ z1).trans HR1.out
        have sc := svCommittee_run r1 (⟨⟨KF⟩, SM⟩ : VCommittee)
        have H4 := hid (And.intro r1 hB3)
        clear r4 r1 hB3 r3 sk hb3 hz3 HSS HRR HWW HR1
        go_wp2
        exact retCommittee 2 3 (w.heap.size + 1) ⟨⟨KF⟩, SM⟩ 47 _ rfl rfl rfl rfl (setRow_at H4.out.1) ⟨rfl, below_row (HB.out.trans (H4.out.2.mono HB.out.size)) (Nat.le_succ _) _⟩
  · have hN : nxC x = oCommittee := by unfold nxC; rw [if_neg (by omega)]
    unfold NxA
    rw [hN, hE]
    rw [hE] at hsy
    have HSY := hid hsy
    have sc := fun (W : World) (h : W.heap[w.heap.size + 1]? = some (.cells (cel (sCommittee oCommittee)) 47)) => svCommittee_run h oCommittee
    have HSC := hid sc
    clear hsy hcs hel hx hx0 ho hS hS0 r0 r1 hB0 hW0 hN hE hL sc
    obtain ⟨oc, eoc⟩ : ∃ c, oCommittee = c := ⟨_, rfl⟩
    rw [eoc] at bc zc HSC HR1 HW
    go_enter Tryd.func10, Tryd.ntmps10
    go_upto_region 1 with fail
    rw [HW.out]
    clear HW
    go_upto_region 3 with (go_at_call 9; refine HSY.out.mono ?_; rintro e' w1 ⟨a1, c1, rfl, hn1, hb1⟩)
    have r1 := (hb1.block _ z1).trans HR1.out
    have sc := HSC.out w1 r1
    have HR := hid r1
    have HBB := hid hb1
    clear r1 hb1 hn1
    go_wp2
    exact retCommittee 2 3 (w.heap.size + 1) oc 47 _ rfl rfl rfl rfl (setRow_at HR.out) ⟨by rw [eoc]; rfl, below_row (HB.out.trans (HBB.out.mono HB.out.size)) (Nat.le_succ _) _⟩

end Go.Proofs.YtlidilnakiphiaaDoor
