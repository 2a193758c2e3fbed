/-
  What LookSums answers, by what the program's functions answer.
-/

import Derived.Test.YtmjdofegmelgbaaLkG
import Derived.Test.YtmjdofegmelgbaaLkL
namespace Go.Proofs.Ytmjdofegmelgbaa

open Go.RowKit

set_option linter.unusedVariables false

set_option linter.unusedSimpArgs false

set_option maxRecDepth 20000

attribute [local go_sem ↓] lvState_eq svState_eq bdState_eq lvValidator_eq svValidator_eq ixValidator_eq

/-- What Reward answers, an error too. -/
def rewA (x : VState) (r i : Int) : Int := if i < (x.f11.n : Int) then rwS x r i.toNat else 0

def rewE (x : VState) (i : Int) : Int := if i < (x.f11.n : Int) then 0 else 1

def PTotal : Prop := ∀ (x : VState) (a : Option Addr) (m cap : Nat) (f : Nat → Int) (w : World), Lk w x → Z.Nms .u64 w a m f → (∀ j, j < m → 0 ≤ f j ∧ f j < 18446744073709551616) → m ≤ 65536 → Calls Try.prog 17 #[.agg (cel (sState x)), .slice a m cap] w fun e' w' => e' = .returned (.int .u64 (lst (ttl x.f11.z x.f11.n f m))) ∧ Below w.heap.size w w'

def PChurn : Prop := ∀ (x : VState) (w : World), Lk w x → (∀ j, j < x.f11.n → OkValidator (x.f11.z j)) → Calls Try.prog 19 #[.agg (cel (sState x))] w fun e' w' => e' = .returned (.int .u64 (chuS x)) ∧ Below w.heap.size w w'

def PReward : Prop := ∀ (x : VState) (r i : Int) (w : World), Lk w x → (∀ j, j < x.f11.n → OkValidator (x.f11.z j)) → IsRut (allS x) r → 0 ≤ i → Calls Try.prog 15 #[.agg (cel (sState x)), .int .u64 i] w fun e' w' => e' = .returned (.tuple #[.int .u64 (rewA x r i), .int .i64 (rewE x i)]) ∧ Below w.heap.size w w'

theorem rreward_any (x : VState) (r i : Int) (w : World) (hx : Lk w x) (hr : IsRut (allS x) r) (h0 : 0 ≤ i) :
    Calls Try.prog 16 #[.agg (cel (sState x)), .int .u64 i] w fun e' w' => e' = .returned (.tuple #[.int .u64 (rewA x r i), .int .i64 (rewE x i)]) ∧ Below w.heap.size w w' := by
  by_cases h : i < (x.f11.n : Int)
  · have := rreward_ok x r i.toNat w hx hr (by omega)
    rw [show ((i.toNat : Nat) : Int) = i by omega] at this
    unfold rewA rewE
    rw [if_pos h, if_pos h]
    exact this
  · unfold rewA rewE
    rw [if_neg h, if_neg h]
    exact rreward_no x i w hx (by omega)

set_option maxHeartbeats 4000000 in
theorem lookSums_law (pAw : PAwake) (pT : PTotal) (pC : PChurn) (pR : PReward) (x : VState) (a : Option Addr) (m cap : Nat) (f : Nat → Int) (i : Int) (w : World) (hx : OkState x) (hw : InW w x) (hf : L64 w a m cap f) (hf0 : ∀ j, 0 ≤ f j ∧ f j < 18446744073709551616) (hm : m ≤ 9223372036854775807) (hi : 0 ≤ i) :
    Calls Try.prog 4 #[.agg (cel (sState x)), .slice a m cap, .int .u64 i] w fun e' w' => e' = .returned (.bool true) ∧ Below w.heap.size w w' := by
  obtain ⟨W0, hW0⟩ : ∃ W, w.alloc (.cells (cel (sState x)) 49) = W := ⟨_, rfl⟩
  have r0 : W0.heap[w.heap.size]? = some (.cells (cel (sState x)) 49) := by rw [← hW0]; exact heap_new rfl
  have hB0 : Below w.heap.size w W0 := by rw [← hW0]; exact (Below.refl _ _).alloc (Nat.le_refl _) _
  have z0 : w.heap.size < W0.heap.size := (Array.getElem?_eq_some_iff.1 r0).1
  have hld : ∀ W : World, Below W0.heap.size W0 W → (lvState ⟨w.heap.size, 0, none⟩).run Try.prog W = .ok (.agg (cel (sState x))) W := fun W h => lvState_run ((h.block _ z0).trans r0)
  have hw0 := hw.below hB0
  have hri : ∀ W : World, Below W0.heap.size W0 W → Calls Try.prog 7 #[.agg (cel (sState x))] W fun e w' => e = .returned (.bool (rightB x)) ∧ Below W.heap.size W w' := fun W h => rright_any x W hx.r' (hw0.below h).r' ⟨hx.o10.1, hx.o4.1.1, hx.o18.1.1, hx.o19.1.1, hx.o20.1.1⟩
  have hf1 := hf.below hB0
  have HB := hid hB0
  have HW0 := hid hW0
  have HLD := hid hld
  cases hR : rightB x
  · rw [hR] at hri
    have HRI := hid hri
    clear hri hB0 hW0 hld hw0 hw hx r0 hf hf1 hf0
    go_enter Try.func4, Try.ntmps4
    go_upto_region 1 with fail
    rw [HW0.out]
    clear HW0
    go_upto_region 3 with (go_at_call 6; refine (pAw _).mono ?_; rintro e' w1 ⟨rfl, hb1⟩)
    have l1 := HLD.out w1 hb1
    go_wp2_with (go_at_call 7; refine (HRI.out w1 hb1).mono ?_; rintro e' w2 ⟨rfl, hb2⟩)
    go_ret
    exact ⟨rfl, HB.out.trans ((hb1.trans (hb2.mono hb1.size)).mono (by omega))⟩
  · rw [hR] at hri
    by_cases hlong : 65536 < m
    · have d1 : (65536 : Int) < (m : Int) := by omega
      have HRI := hid hri
      clear hri hB0 hW0 hld hw0 hw hx r0 hf hf1 hf0 hR
      go_enter Try.func4, Try.ntmps4
      go_upto_region 1 with fail
      rw [HW0.out]
      clear HW0
      go_upto_region 3 with (go_at_call 6; refine (pAw _).mono ?_; rintro e' w1 ⟨rfl, hb1⟩)
      have l1 := HLD.out w1 hb1
      go_wp2_with (go_at_call 7; refine (HRI.out w1 hb1).mono ?_; rintro e' w2 ⟨rfl, hb2⟩)
      go_ret
      exact ⟨rfl, HB.out.trans ((hb1.trans (hb2.mono hb1.size)).mono (by omega))⟩
    · have d1 : decide ((65536 : Int) < (m : Int)) = false := by simp; omega
      have hO := rightB_out hR
      have hk0 : Lk W0 x := hO.lk hx hw0
      have hok := hx.o11
      have hab := allS_bd x hO.c0 hk0.ef
      obtain ⟨r, hr⟩ : ∃ r, IsRut (allS x) r := by
        have := root_ex (allS x).toNat
        rwa [Int.toNat_of_nonneg (by omega)] at this
      have hT : ∀ (W : World) a' c', Below W0.heap.size W0 W → Z.Nms .u64 W a' m f → Calls Try.prog 17 #[.agg (cel (sState x)), .slice a' m c'] W fun e' w' => e' = .returned (.int .u64 (lst (ttl x.f11.z x.f11.n f m))) ∧ Below W.heap.size W w' := fun W a' c' h hn => pT x a' m c' f W (hk0.below h) hn (fun j _ => hf0 j) (by omega)
      have hRT : ∀ (W : World), Below W0.heap.size W0 W → Calls Try.prog 18 #[.agg (cel (sState x)), .slice a m cap] W fun e' w' => e' = .returned (.int .u64 (lst (ttl x.f11.z x.f11.n f m))) ∧ Below W.heap.size W w' := fun W h => rtotal_any x a m cap f W (hk0.below h) (hf1.nms.below h) (fun j _ => hf0 j) (by omega)
      have hC : ∀ (W : World), Below W0.heap.size W0 W → Calls Try.prog 19 #[.agg (cel (sState x))] W fun e' w' => e' = .returned (.int .u64 (chuS x)) ∧ Below W.heap.size W w' := fun W h => pC x W (hk0.below h) hok
      have hRC : ∀ (W : World), Below W0.heap.size W0 W → Calls Try.prog 20 #[.agg (cel (sState x))] W fun e' w' => e' = .returned (.int .u64 (chuS x)) ∧ Below W.heap.size W w' := fun W h => rchurn_any x W (hk0.below h)
      have hRw : ∀ (W : World), Below W0.heap.size W0 W → Calls Try.prog 15 #[.agg (cel (sState x)), .int .u64 i] W fun e' w' => e' = .returned (.tuple #[.int .u64 (rewA x r i), .int .i64 (rewE x i)]) ∧ Below W.heap.size W w' := fun W h => pR x r i W (hk0.below h) hok hr hi
      have hRR : ∀ (W : World), Below W0.heap.size W0 W → Calls Try.prog 16 #[.agg (cel (sState x)), .int .u64 i] W fun e' w' => e' = .returned (.tuple #[.int .u64 (rewA x r i), .int .i64 (rewE x i)]) ∧ Below W.heap.size W w' := fun W h => rreward_any x r i W (hk0.below h) hr hi
      have hsm : ∀ (W : World) a' c', Z.Nms .u64 W a' m f → Below W0.heap.size W0 W → Calls Try.prog 12 #[.slice a' m c', .slice a m cap] W fun e w' => e = .returned (.bool true) ∧ Below W.heap.size W w' := fun W a' c' h1 h => same_nms a' a m c' cap f W h1 (hf1.nms.below h) hm
      have hcp := fun (W : World) (h : Below W0.heap.size W0 W) => ap64_copy W W0 a m cap f hf1 h (by omega)
      generalize lst (ttl x.f11.z x.f11.n f m) = TT at *
      generalize chuS x = CC at *
      generalize rewA x r i = AA at *
      generalize rewE x i = EE at *
      have HRI := hid hri
      have HT := hid hT
      have HRT := hid hRT
      have HC := hid hC
      have HRC := hid hRC
      have HRW := hid hRw
      have HRR := hid hRR
      have HSM := hid hsm
      have HCP := hid hcp
      clear hri hT hRT hC hRC hRw hRR hsm hcp hB0 hW0 hld hw0 hw hx r0 hO hk0 hR hf hf1 hf0 hok hab hr
      go_enter Try.func4, Try.ntmps4
      go_upto_region 1 with fail
      rw [HW0.out]
      clear HW0
      go_upto_region 3 with (go_at_call 6; refine (pAw _).mono ?_; rintro e' w1 ⟨rfl, hb1⟩)
      have l1 := HLD.out w1 hb1
      have HB1 := hid hb1
      clear hb1
      go_upto_region 5 with (go_at_call 7; refine (HRI.out w1 HB1.out).mono ?_; rintro e' w2 ⟨rfl, hb2⟩)
      have hw2 := HB1.out.trans (hb2.mono HB1.out.size)
      have HW2 := hid hw2
      clear hw2 hb2 l1 HB1
      go_upto_region 6 with (at_builtin; obtain ⟨vm, w3, hap, hom, hb3⟩ := HCP.out w2 HW2.out 37; refine wpL_append_is rfl _ _ rfl _ _ _ _ rfl rfl hap ?_)
      obtain ⟨am, cm, rfl, hNm3⟩ := own_nmf hom
      have hw3 := HW2.out.trans (hb3.mono HW2.out.size)
      have l3 := HLD.out w3 hw3
      have HW3 := hid hw3
      have HN3 := hid hNm3
      clear hw3 hNm3 hb3 hom hap HW2 HCP
      go_upto_region 7 with (go_at_call 15; refine (HRW.out w3 HW3.out).mono ?_; rintro e' w4 ⟨rfl, hb4⟩)
      have hw4 := HW3.out.trans (hb4.mono HW3.out.size)
      have hN4 := HN3.out.below hb4
      have l4 := HLD.out w4 hw4
      have HW4 := hid hw4
      have HN4 := hid hN4
      clear l3 hw4 hN4 hb4 HW3 HN3
      go_upto_region 8 with (go_at_call 16; refine (HRR.out w4 HW4.out).mono ?_; rintro e' w5 ⟨rfl, hb5⟩)
      have hw5 := HW4.out.trans (hb5.mono HW4.out.size)
      have hNm := HN4.out.below hb5
      have hB6 : Below W0.heap.size W0 w5.drew := hw5.drew
      have hbdr : Below w5.heap.size w5 w5.drew := (Below.refl _ _).drew
      clear l4 HW4 HN4 hb5 HRW HRR
      refine wp_region_noPanic ?_
      refine wp_region_held_drew (S := fun W => Below W0.heap.size W0 W) (by kernel_rfl) (hB6) (fun hHeld => ?_)
      refine tk 0 (v := ?v18) ?y18 hHeld ?r18
      case y18 => intro w hSw; have ld := HLD.out _ hSw; go_simp; try with_reducible rfl
      refine tk 1 (v := ?v19) ?y19 hHeld ?r19
      case y19 => intro w hSw; go_simp; try with_reducible rfl
      refine tk 3 (v := ?v20) ?y20 hHeld ?r20
      case y20 => intro w hSw; have ld := HLD.out _ hSw; go_simp; try with_reducible rfl
      refine tk 4 (v := ?v21) ?y21 hHeld ?r21
      case y21 => intro w hSw; go_simp; try with_reducible rfl
      try simp only [Act.put, List.setIfInBounds_toArray, List.set_cons_zero, List.set_cons_succ, Array.toArray_toList, List.getElem_toArray, List.getElem_cons_zero, List.getElem_cons_succ]
      refine wpAnyH_ready (rs := [2]) (by kernel_rfl) (by simp) ?_
      refine AllReadyH.cons rfl (fun K hK => ?_) AllReadyH.nil
      go_simp
      refine (HT.out _ am cm hB6 (hNm.below hbdr)).mono ?_
      rintro e' w7 ⟨rfl, hb7⟩
      dsimp only
      have hB7 : Below W0.heap.size W0 w7 := hB6.trans (hb7.mono hB6.size)
      refine hK.out _ _ (hB7) (fun hHeld => ?_)
      clear hK K
      try simp only [Act.put, List.setIfInBounds_toArray, List.set_cons_zero, List.set_cons_succ, Array.toArray_toList, List.getElem_toArray, List.getElem_cons_zero, List.getElem_cons_succ]
      refine wpAnyH_ready (rs := [5]) (by kernel_rfl) (by simp) ?_
      refine AllReadyH.cons rfl (fun K hK => ?_) AllReadyH.nil
      go_simp
      refine (HRT.out _ hB7).mono ?_
      rintro e' w8 ⟨rfl, hb8⟩
      dsimp only
      have hB8 : Below W0.heap.size W0 w8 := hB7.trans (hb8.mono hB7.size)
      refine hK.out _ _ (hB8) (fun hHeld => ?_)
      clear hK K
      try simp only [Act.put, List.setIfInBounds_toArray, List.set_cons_zero, List.set_cons_succ, Array.toArray_toList, List.getElem_toArray, List.getElem_cons_zero, List.getElem_cons_succ]
      refine tk 6 (v := ?v22) ?y22 hHeld ?r22
      case y22 => intro w hSw; go_simp; try with_reducible rfl
      refine tk 7 (v := ?v23) ?y23 hHeld ?r23
      case y23 => intro w hSw; go_simp; try with_reducible rfl
      refine tk 8 (v := ?v24) ?y24 hHeld ?r24
      case y24 => intro w hSw; have ld := HLD.out _ hSw; go_simp; try with_reducible rfl
      refine tk 10 (v := ?v25) ?y25 hHeld ?r25
      case y25 => intro w hSw; have ld := HLD.out _ hSw; go_simp; try with_reducible rfl
      try simp only [Act.put, List.setIfInBounds_toArray, List.set_cons_zero, List.set_cons_succ, Array.toArray_toList, List.getElem_toArray, List.getElem_cons_zero, List.getElem_cons_succ]
      refine wpAnyH_ready (rs := [9]) (by kernel_rfl) (by simp) ?_
      refine AllReadyH.cons rfl (fun K hK => ?_) AllReadyH.nil
      go_simp
      refine (HC.out _ hB8).mono ?_
      rintro e' w9 ⟨rfl, hb9⟩
      dsimp only
      have hB9 : Below W0.heap.size W0 w9 := hB8.trans (hb9.mono hB8.size)
      refine hK.out _ _ (hB9) (fun hHeld => ?_)
      clear hK K
      try simp only [Act.put, List.setIfInBounds_toArray, List.set_cons_zero, List.set_cons_succ, Array.toArray_toList, List.getElem_toArray, List.getElem_cons_zero, List.getElem_cons_succ]
      refine wpAnyH_ready (rs := [11]) (by kernel_rfl) (by simp) ?_
      refine AllReadyH.cons rfl (fun K hK => ?_) AllReadyH.nil
      go_simp
      refine (HRC.out _ hB9).mono ?_
      rintro e' w10 ⟨rfl, hb10⟩
      dsimp only
      have hB10 : Below W0.heap.size W0 w10 := hB9.trans (hb10.mono hB9.size)
      refine hK.out _ _ (hB10) (fun hHeld => ?_)
      clear hK K
      try simp only [Act.put, List.setIfInBounds_toArray, List.set_cons_zero, List.set_cons_succ, Array.toArray_toList, List.getElem_toArray, List.getElem_cons_zero, List.getElem_cons_succ]
      refine tk 12 (v := ?v26) ?y26 hHeld ?r26
      case y26 => intro w hSw; go_simp; try with_reducible rfl
      refine tk 13 (v := ?v27) ?y27 hHeld ?r27
      case y27 => intro w hSw; go_simp; try with_reducible rfl
      refine tk 14 (v := ?v28) ?y28 hHeld ?r28
      case y28 => intro w hSw; go_simp; try with_reducible rfl
      refine tk 15 (v := ?v29) ?y29 hHeld ?r29
      case y29 => intro w hSw; go_simp; try with_reducible rfl
      refine tk 16 (v := ?v30) ?y30 hHeld ?r30
      case y30 => intro w hSw; go_simp; try with_reducible rfl
      refine tk 17 (v := ?v31) ?y31 hHeld ?r31
      case y31 => intro w hSw; go_simp; try with_reducible rfl
      refine tk 18 (v := ?v32) ?y32 hHeld ?r32
      case y32 => intro w hSw; go_simp; try with_reducible rfl
      refine tk 19 (v := ?v33) ?y33 hHeld ?r33
      case y33 => intro w hSw; go_simp; try with_reducible rfl
      refine tk 20 (v := ?v34) ?y34 hHeld ?r34
      case y34 => intro w hSw; go_simp; try with_reducible rfl
      refine tk 21 (v := ?v35) ?y35 hHeld ?r35
      case y35 => intro w hSw; go_simp; try with_reducible rfl
      refine tk 22 (v := ?v36) ?y36 hHeld ?r36
      case y36 => intro w hSw; go_simp; try with_reducible rfl
      refine tk 23 (v := ?v37) ?y37 hHeld ?r37
      case y37 => intro w hSw; go_simp; try with_reducible rfl
      refine tk 24 (v := ?v38) ?y38 hHeld ?r38
      case y38 => intro w hSw; go_simp; try with_reducible rfl
      refine tk 25 (v := ?v39) ?y39 hHeld ?r39
      case y39 => intro w hSw; go_simp; try with_reducible rfl
      refine tk 26 (v := ?v40) ?y40 hHeld ?r40
      case y40 => intro w hSw; go_simp; try with_reducible rfl
      try simp only [Act.put, List.setIfInBounds_toArray, List.set_cons_zero, List.set_cons_succ, Array.toArray_toList, List.getElem_toArray, List.getElem_cons_zero, List.getElem_cons_succ]
      refine wpAnyH_ready (rs := [27]) (by kernel_rfl) (by simp) ?_
      refine AllReadyH.cons rfl (fun K hK => ?_) AllReadyH.nil
      go_simp
      refine (HSM.out w10 am cm (hNm.below (hbdr.trans ((hb7.trans ((hb8.trans ((hb9.trans (hb10.mono hb9.size)).mono hb8.size)).mono hb7.size)).mono hbdr.size))) hB10).mono ?_
      rintro e' w11 ⟨rfl, hb11⟩
      dsimp only
      have hB11 : Below W0.heap.size W0 w11 := hB10.trans (hb11.mono hB10.size)
      refine hK.out _ _ (hB11) (fun hHeld => ?_)
      clear hK K
      try simp only [Act.put, List.setIfInBounds_toArray, List.set_cons_zero, List.set_cons_succ, Array.toArray_toList, List.getElem_toArray, List.getElem_cons_zero, List.getElem_cons_succ]
      refine tk 28 (v := ?v41) ?y41 hHeld ?r41
      case y41 => intro w hSw; go_simp; try with_reducible rfl
      refine tk 29 (v := ?v42) ?y42 hHeld ?r42
      case y42 => intro w hSw; go_simp; try with_reducible rfl
      try simp only [Act.put, List.setIfInBounds_toArray, List.set_cons_zero, List.set_cons_succ, Array.toArray_toList, List.getElem_toArray, List.getElem_cons_zero, List.getElem_cons_succ]
      refine wpAnyH_done (by kernel_rfl) ?_ _
      refine NoPanic.normal ?_
      go_wp2
      go_ret
      exact ⟨rfl, HB.out.trans (hB11.mono (by omega))⟩

end Go.Proofs.Ytmjdofegmelgbaa
