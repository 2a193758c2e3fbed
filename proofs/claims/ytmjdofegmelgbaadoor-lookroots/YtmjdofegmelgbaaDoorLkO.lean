/-
  What LookRoots answers, by what the program's functions answer.
-/

import Derived.Test.YtmjdofegmelgbaaDoorLkM
import Derived.Test.YtmjdofegmelgbaaDoorMaC
import Derived.Test.YtmjdofegmelgbaaDoorMaD
namespace Go.Proofs.YtmjdofegmelgbaaDoor

open Go.RowKit

set_option linter.unusedVariables false

set_option linter.unusedSimpArgs false

set_option maxRecDepth 20000

def PRootAt : Prop := ∀ (x : VState) (s : Int) (w : World), OkState x → Lk w x → 0 ≤ s → s < 18446744073709551616 → Calls Tryd.prog 6 #[.agg (cel (sState x)), .int .u64 s] w fun e' w' => e' = .returned (.tuple #[.agg (vs .u8 32 (rtV x s)), .int .i64 (rtE x s)]) ∧ Below w.heap.size w w'

def PLeak : Prop := ∀ (x : VState) (w : World), OkState x → Lk w x → Calls Tryd.prog 8 #[.agg (cel (sState x))] w fun e' w' => e' = .returned (.bool (lekB x)) ∧ Below w.heap.size w w'

def PSeed : Prop := ∀ (x : VState) (e k : Int) (w : World), OkState x → 0 ≤ e → e < 18446744073709551616 → -9223372036854775808 ≤ k → k ≤ 9223372036854775807 → Sh w → Calls Tryd.prog 10 #[.agg (cel (sState x)), .int .u64 e, .int .i64 k] w fun e' w' => e' = .returned (.agg (vs .u8 32 (seedV x e k))) ∧ Below w.heap.size w w'

attribute [local go_sem ↓] lvState_eq svState_eq bdState_eq lvValidator_eq svValidator_eq ixValidator_eq sv24_eq lv24_eq bd27_eq sv8_eq

set_option maxHeartbeats 4000000 in
theorem lookRoots_law (pAw : PAwake) (pRt : PRootAt) (pLk : PLeak) (pSd : PSeed) (x : VState) (s e k : Int) (w : World) (hx : OkState x) (hw : InW w x) (s0 : 0 ≤ s) (s1 : s < 18446744073709551616) (e0 : 0 ≤ e) (e1 : e < 18446744073709551616) (k0 : -9223372036854775808 ≤ k) (k1 : k ≤ 9223372036854775807) (hS : Sh w) (hC : Tab w 1 64 KW) :
    Calls Tryd.prog 3 #[.agg (cel (sState x)), .int .u64 s, .int .u64 e, .int .i64 k] w fun e' w' => e' = .returned (.bool true) ∧ Below w.heap.size w w' := by
  obtain ⟨W0, hW0⟩ : ∃ W, w.alloc (.cells (cel (sState x)) 49) = W := ⟨_, rfl⟩
  have r0 : W0.heap[w.heap.size]? = some (.cells (cel (sState x)) 49) := by rw [← hW0]; exact heap_new rfl
  have hB0 : Below w.heap.size w W0 := by rw [← hW0]; exact (Below.refl _ _).alloc (Nat.le_refl _) _
  have z0 : w.heap.size < W0.heap.size := (Array.getElem?_eq_some_iff.1 r0).1
  have hld : ∀ W : World, Below W0.heap.size W0 W → (lvState ⟨w.heap.size, 0, none⟩).run Tryd.prog W = .ok (.agg (cel (sState x))) W := fun W h => lvState_run ((h.block _ z0).trans r0)
  have hw0 := hw.below hB0
  have hri : ∀ W : World, Below W0.heap.size W0 W → Calls Tryd.prog 5 #[.agg (cel (sState x))] W fun e w' => e = .returned (.bool (rightB x)) ∧ Below W.heap.size W w' := fun W h => rright_any x W hx.r' (hw0.below h).r' ⟨hx.o10.1, hx.o4.1.1, hx.o18.1.1, hx.o19.1.1, hx.o20.1.1⟩
  have hS0 := hS.below hB0
  have hC0 := hC.below hB0
  have HB := hid hB0
  have HW0 := hid hW0
  have HLD := hid hld
  cases hR : rightB x
  · rw [hR] at hri
    have HRI := hid hri
    clear hri hB0 hW0 hld hw0 hw hx r0 hS hC hS0 hC0
    go_enter Tryd.func3, Tryd.ntmps3
    go_upto_region 1 with fail
    rw [HW0.out]
    clear HW0
    go_upto_region 3 with (go_at_call 4; refine (pAw _).mono ?_; rintro e' w1 ⟨rfl, hb1⟩)
    have l1 := HLD.out w1 hb1
    go_wp2_with (go_at_call 5; refine (HRI.out w1 hb1).mono ?_; rintro e' w2 ⟨rfl, hb2⟩)
    go_ret
    exact ⟨rfl, HB.out.trans ((hb1.trans (hb2.mono hb1.size)).mono (by omega))⟩
  · rw [hR] at hri
    have hO := rightB_out hR
    have hk0 : Lk W0 x := hO.lk hx hw0
    have hpr : ∀ W : World, Below W0.heap.size W0 W → Calls Tryd.prog 6 #[.agg (cel (sState x)), .int .u64 s] W fun e' w' => e' = .returned (.tuple #[.agg (vs .u8 32 (rtV x s)), .int .i64 (rtE x s)]) ∧ Below W.heap.size W w' := fun W h => pRt x s W hx (hk0.below h) s0 s1
    have hrr : ∀ W : World, Below W0.heap.size W0 W → Calls Tryd.prog 7 #[.agg (cel (sState x)), .int .u64 s] W fun e' w' => e' = .returned (.tuple #[.agg (vs .u8 32 (rtV x s)), .int .i64 (rtE x s)]) ∧ Below W.heap.size W w' := fun W h => rrootat_any x s W hx s0
    have hpl : ∀ W : World, Below W0.heap.size W0 W → Calls Tryd.prog 8 #[.agg (cel (sState x))] W fun e' w' => e' = .returned (.bool (lekB x)) ∧ Below W.heap.size W w' := fun W h => pLk x W hx (hk0.below h)
    have hrl : ∀ W : World, Below W0.heap.size W0 W → Calls Tryd.prog 9 #[.agg (cel (sState x))] W fun e' w' => e' = .returned (.bool (lekB x)) ∧ Below W.heap.size W w' := fun W h => rleak_any x W (hk0.below h) hx.o20.1
    have hps : ∀ W : World, Below W0.heap.size W0 W → Calls Tryd.prog 10 #[.agg (cel (sState x)), .int .u64 e, .int .i64 k] W fun e' w' => e' = .returned (.agg (vs .u8 32 (seedV x e k))) ∧ Below W.heap.size W w' := fun W h => pSd x e k W hx e0 e1 k0 k1 (hS0.below h)
    have hrs : ∀ W : World, Below W0.heap.size W0 W → Calls Tryd.prog 11 #[.agg (cel (sState x)), .int .u64 e, .int .i64 k] W fun e' w' => e' = .returned (.agg (vs .u8 32 (seedV x e k))) ∧ Below W.heap.size W w' := fun W h => rseed_any x e k W hx e0 e1 (hC0.below h)
    generalize rtV x s = RV at *
    generalize rtE x s = RE at *
    generalize lekB x = LB at *
    generalize seedV x e k = SV at *
    have v24 := fun W => sv24_newv W (fun _ => 0) RV
    have zr := zero_root
    have HRI := hid hri
    have HPR := hid hpr
    have HRR := hid hrr
    have HPL := hid hpl
    have HRL := hid hrl
    have HPS := hid hps
    have HRS := hid hrs
    clear hri hpr hrr hpl hrl hps hrs hB0 hW0 hld hw0 hw hx r0 hO hk0 hR hS hC hS0 hC0
    go_enter Tryd.func3, Tryd.ntmps3
    go_upto_region 1 with fail
    rw [HW0.out]
    clear HW0
    go_upto_region 3 with (go_at_call 4; refine (pAw _).mono ?_; rintro e' w1 ⟨rfl, hb1⟩)
    have l1 := HLD.out w1 hb1
    have HB1 := hid hb1
    clear hb1
    go_upto_region 5 with (go_at_call 5; refine (HRI.out w1 HB1.out).mono ?_; rintro e' w2 ⟨rfl, hb2⟩)
    have hw2 := HB1.out.trans (hb2.mono HB1.out.size)
    have l2 := HLD.out w2 hw2
    have HW2 := hid hw2
    clear hw2 hb2 l1 HB1
    go_upto_region 6 with (go_at_call 6; refine (HPR.out w2 HW2.out).mono ?_; rintro e' w3 ⟨rfl, hb3⟩)
    obtain ⟨W4, hW4⟩ : ∃ W, w3.alloc (.cells (vs .u8 32 RV) 24) = W := ⟨_, rfl⟩
    rw [hW4]
    have hw3 := HW2.out.trans (hb3.mono HW2.out.size)
    have r4 : W4.heap[w3.heap.size]? = some (.cells (vs .u8 32 RV) 24) := by rw [← hW4]; exact heap_new rfl
    have hw4 : Below W0.heap.size W0 W4 := by rw [← hW4]; exact hw3.alloc hw3.size _
    obtain ⟨y1, ey1⟩ : ∃ y, w3.heap.size = y := ⟨_, rfl⟩
    rw [ey1] at r4 ⊢
    have l4 := HLD.out W4 hw4
    have HR4 := hid r4
    have HW4 := hid hw4
    clear l2 r4 hw4 hw3 hW4 ey1 hb3 HW2
    go_upto_region 7 with (go_at_call 7; refine (HRR.out W4 HW4.out).mono ?_; rintro e' w5 ⟨rfl, hb5⟩)
    obtain ⟨W6, hW6⟩ : ∃ W, w5.alloc (.cells (vs .u8 32 RV) 24) = W := ⟨_, rfl⟩
    rw [hW6]
    have hw5 := HW4.out.trans (hb5.mono HW4.out.size)
    have r6 : W6.heap[w5.heap.size]? = some (.cells (vs .u8 32 RV) 24) := by rw [← hW6]; exact heap_new rfl
    have hE6 : Below W4.heap.size W4 W6 := by rw [← hW6]; exact hb5.alloc hb5.size _
    have hw6 : Below W0.heap.size W0 W6 := HW4.out.trans (hE6.mono HW4.out.size)
    have r46 := (hE6.block _ (Array.getElem?_eq_some_iff.1 HR4.out).1).trans HR4.out
    obtain ⟨y2, ey2⟩ : ∃ y, w5.heap.size = y := ⟨_, rfl⟩
    rw [ey2] at r6 ⊢
    have z46 := (Array.getElem?_eq_some_iff.1 r46).1
    have z6 := (Array.getElem?_eq_some_iff.1 r6).1
    have hl1 : ∀ W : World, Below W6.heap.size W6 W → (lv24 ⟨y1, 0, none⟩).run Tryd.prog W = .ok (.agg (vs .u8 32 RV)) W := fun W h => lv24_run ((h.block _ z46).trans r46)
    have hl2 : ∀ W : World, Below W6.heap.size W6 W → (lv24 ⟨y2, 0, none⟩).run Tryd.prog W = .ok (.agg (vs .u8 32 RV)) W := fun W h => lv24_run ((h.block _ z6).trans r6)
    have hls : ∀ W : World, Below W6.heap.size W6 W → (lvState ⟨w.heap.size, 0, none⟩).run Tryd.prog W = .ok (.agg (cel (sState x))) W := fun W h => HLD.out W (hw6.trans (h.mono hw6.size))
    have hdr : Below W6.heap.size W6 W6.drew := (Below.refl _ _).drew
    have HL1 := hid hl1
    have HL2 := hid hl2
    have HLS := hid hls
    have HDR := hid hdr
    have HB6 := hid hw6
    clear hl1 hl2 hls hdr hw6 r6 r46 z46 z6 hE6 hw5 hW6 ey2 hb5 HW4 HR4 l4 v24 zr HPR HRR
    refine wp_region_noPanic ?_
    refine wp_region_held_drew (S := fun W => Below W6.heap.size W6 W) (by kernel_rfl) (HDR.out) (fun hHeld => ?_)
    refine tk 0 (v := ?v18) ?y18 hHeld ?r18
    case y18 => intro w hSw; have ld := HL1.out _ hSw; go_simp; try with_reducible rfl
    refine tk 1 (v := ?v19) ?y19 hHeld ?r19
    case y19 => intro w hSw; have ld := HL2.out _ hSw; go_simp; try with_reducible rfl
    try simp only [Act.put, List.setIfInBounds_toArray, List.set_cons_zero, List.set_cons_succ, Array.toArray_toList, List.getElem_toArray, List.getElem_cons_zero, List.getElem_cons_succ]
    refine wpAnyH_take (i := 2) rfl (by kernel_rfl) (by kernel_rfl) (by kernel_rfl) (fun _ _ _ h => h) (yields_neo (by rfl) _ _ _ rfl RV RV rfl rfl) hHeld ?_
    rw [eqR_self, Bool.not_true]
    try simp only [Act.put, List.setIfInBounds_toArray, List.set_cons_zero, List.set_cons_succ, Array.toArray_toList, List.getElem_toArray, List.getElem_cons_zero, List.getElem_cons_succ]
    refine tk 3 (v := ?v20) ?y20 hHeld ?r20
    case y20 => intro w hSw; go_simp; try with_reducible rfl
    refine tk 4 (v := ?v21) ?y21 hHeld ?r21
    case y21 => intro w hSw; go_simp; try with_reducible rfl
    refine tk 5 (v := ?v22) ?y22 hHeld ?r22
    case y22 => intro w hSw; go_simp; try with_reducible rfl
    refine tk 6 (v := ?v23) ?y23 hHeld ?r23
    case y23 => intro w hSw; go_simp; try with_reducible rfl
    refine tk 7 (v := ?v24) ?y24 hHeld ?r24
    case y24 => intro w hSw; go_simp; try with_reducible rfl
    refine tk 8 (v := ?v25) ?y25 hHeld ?r25
    case y25 => intro w hSw; go_simp; try with_reducible rfl
    refine tk 9 (v := ?v26) ?y26 hHeld ?r26
    case y26 => intro w hSw; have ld := HLS.out _ hSw; go_simp; try with_reducible rfl
    refine tk 11 (v := ?v27) ?y27 hHeld ?r27
    case y27 => intro w hSw; have ld := HLS.out _ hSw; go_simp; try with_reducible rfl
    try simp only [Act.put, List.setIfInBounds_toArray, List.set_cons_zero, List.set_cons_succ, Array.toArray_toList, List.getElem_toArray, List.getElem_cons_zero, List.getElem_cons_succ]
    refine wpAnyH_ready (rs := [10]) (by kernel_rfl) (by simp) ?_
    refine AllReadyH.cons rfl (fun K hK => ?_) AllReadyH.nil
    go_simp
    refine (HPL.out _ (HB6.out.trans (HDR.out.mono HB6.out.size))).mono ?_
    rintro e' w7 ⟨rfl, hb7⟩
    dsimp only
    have hB7 : Below W6.heap.size W6 w7 := HDR.out.trans hb7
    refine hK.out _ _ (hB7) (fun hHeld => ?_)
    clear hK K
    try simp only [Act.put, List.setIfInBounds_toArray, List.set_cons_zero, List.set_cons_succ, Array.toArray_toList, List.getElem_toArray, List.getElem_cons_zero, List.getElem_cons_succ]
    refine wpAnyH_ready (rs := [12]) (by kernel_rfl) (by simp) ?_
    refine AllReadyH.cons rfl (fun K hK => ?_) AllReadyH.nil
    go_simp
    refine (HRL.out _ (HB6.out.trans (hB7.mono HB6.out.size))).mono ?_
    rintro e' w8 ⟨rfl, hb8⟩
    dsimp only
    have hB8 : Below W6.heap.size W6 w8 := hB7.trans (hb8.mono hB7.size)
    refine hK.out _ _ (hB8) (fun hHeld => ?_)
    clear hK K
    try simp only [Act.put, List.setIfInBounds_toArray, List.set_cons_zero, List.set_cons_succ, Array.toArray_toList, List.getElem_toArray, List.getElem_cons_zero, List.getElem_cons_succ]
    refine tk 13 (v := ?v28) ?y28 hHeld ?r28
    case y28 => intro w hSw; go_simp; try with_reducible rfl
    refine tk 14 (v := ?v29) ?y29 hHeld ?r29
    case y29 => intro w hSw; go_simp; try with_reducible rfl
    try simp only [Act.put, List.setIfInBounds_toArray, List.set_cons_zero, List.set_cons_succ, Array.toArray_toList, List.getElem_toArray, List.getElem_cons_zero, List.getElem_cons_succ]
    refine wpAnyH_done (by kernel_rfl) ?_ _
    refine NoPanic.normal ?_
    have hw8 : Below W0.heap.size W0 w8 := HB6.out.trans (hB8.mono HB6.out.size)
    have HW8 := hid hw8
    clear hw8 hB7 hB8 hb7 hb8 HB6 HL1 HL2 HLS HDR HPL HRL hHeld
    go_upto_region 9 with fail
    refine wp_region_noPanic ?_
    refine wp_region_held_drew (S := fun W => Below W0.heap.size W0 W) (by kernel_rfl) (HW8.out.drew) (fun hHeld => ?_)
    refine tk 0 (v := ?v30) ?y30 hHeld ?r30
    case y30 => intro w hSw; have ld := HLD.out _ hSw; go_simp; try with_reducible rfl
    refine tk 1 (v := ?v31) ?y31 hHeld ?r31
    case y31 => intro w hSw; go_simp; try with_reducible rfl
    refine tk 2 (v := ?v32) ?y32 hHeld ?r32
    case y32 => intro w hSw; go_simp; try with_reducible rfl
    refine tk 4 (v := ?v33) ?y33 hHeld ?r33
    case y33 => intro w hSw; have ld := HLD.out _ hSw; go_simp; try with_reducible rfl
    refine tk 5 (v := ?v34) ?y34 hHeld ?r34
    case y34 => intro w hSw; go_simp; try with_reducible rfl
    refine tk 6 (v := ?v35) ?y35 hHeld ?r35
    case y35 => intro w hSw; go_simp; try with_reducible rfl
    try simp only [Act.put, List.setIfInBounds_toArray, List.set_cons_zero, List.set_cons_succ, Array.toArray_toList, List.getElem_toArray, List.getElem_cons_zero, List.getElem_cons_succ]
    refine wpAnyH_ready (rs := [3]) (by kernel_rfl) (by simp) ?_
    refine AllReadyH.cons rfl (fun K hK => ?_) AllReadyH.nil
    go_simp
    refine (HPS.out _ HW8.out.drew).mono ?_
    rintro e' w9 ⟨rfl, hb9⟩
    dsimp only
    have hB9 : Below W0.heap.size W0 w9 := HW8.out.drew.trans (hb9.mono HW8.out.size)
    refine hK.out _ _ (hB9) (fun hHeld => ?_)
    clear hK K
    try simp only [Act.put, List.setIfInBounds_toArray, List.set_cons_zero, List.set_cons_succ, Array.toArray_toList, List.getElem_toArray, List.getElem_cons_zero, List.getElem_cons_succ]
    refine wpAnyH_ready (rs := [7]) (by kernel_rfl) (by simp) ?_
    refine AllReadyH.cons rfl (fun K hK => ?_) AllReadyH.nil
    go_simp
    refine (HRS.out _ hB9).mono ?_
    rintro e' w10 ⟨rfl, hb10⟩
    dsimp only
    have hB10 : Below W0.heap.size W0 w10 := hB9.trans (hb10.mono hB9.size)
    refine hK.out _ _ (hB10) (fun hHeld => ?_)
    clear hK K
    try simp only [Act.put, List.setIfInBounds_toArray, List.set_cons_zero, List.set_cons_succ, Array.toArray_toList, List.getElem_toArray, List.getElem_cons_zero, List.getElem_cons_succ]
    refine wpAnyH_take (i := 8) rfl (by kernel_rfl) (by kernel_rfl) (by kernel_rfl) (fun _ _ _ h => h) (yields_eqo (by rfl) _ _ _ rfl SV SV rfl rfl) hHeld ?_
    rw [eqR_self]
    try simp only [Act.put, List.setIfInBounds_toArray, List.set_cons_zero, List.set_cons_succ, Array.toArray_toList, List.getElem_toArray, List.getElem_cons_zero, List.getElem_cons_succ]
    refine tk 9 (v := ?v36) ?y36 hHeld ?r36
    case y36 => intro w hSw; go_simp; try with_reducible rfl
    try simp only [Act.put, List.setIfInBounds_toArray, List.set_cons_zero, List.set_cons_succ, Array.toArray_toList, List.getElem_toArray, List.getElem_cons_zero, List.getElem_cons_succ]
    refine wpAnyH_done (by kernel_rfl) ?_ _
    refine NoPanic.normal ?_
    go_wp2
    go_ret
    exact ⟨rfl, HB.out.trans (hB10.mono (by omega))⟩

end Go.Proofs.YtmjdofegmelgbaaDoor
