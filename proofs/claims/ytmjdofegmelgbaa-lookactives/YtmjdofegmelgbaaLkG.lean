/-
  What LookActives answers, by what the program's functions answer.
-/

import Derived.Test.YtmjdofegmelgbaaLkE
import Derived.Test.YtmjdofegmelgbaaStY
namespace Go.Proofs.Ytmjdofegmelgbaa

open Go.RowKit

set_option linter.unusedVariables false

set_option linter.unusedSimpArgs false

set_option maxRecDepth 20000

attribute [local go_sem ↓] lvState_eq svState_eq bdState_eq lvValidator_eq svValidator_eq ixValidator_eq

/-- What the program's functions have to answer. -/
def PActive : Prop := ∀ (v : VValidator) (e : Int) (w : World), OkValidator v → Calls Try.prog 8 #[.agg (cel (sValidator v)), .int .u64 e] w fun e' w' => e' = .returned (.bool (actB v e)) ∧ Below w.heap.size w w'

def PSlash : Prop := ∀ (v : VValidator) (e : Int) (w : World), OkValidator v → Calls Try.prog 10 #[.agg (cel (sValidator v)), .int .u64 e] w fun e' w' => e' = .returned (.bool (slaB v e)) ∧ Below w.heap.size w w'

def PActives : Prop := ∀ (x : VState) (e : Int) (w : World), Lk w x → (∀ j, j < x.f11.n → OkValidator (x.f11.z j)) → Calls Try.prog 13 #[.agg (cel (sState x)), .int .u64 e] w fun e' w' => ∃ a c, e' = .returned (.slice a (acL x.f11.z e x.f11.n).length c) ∧ Nml w' a (acL x.f11.z e x.f11.n) ∧ Below w.heap.size w w'

def PAwake : Prop := ∀ w : World, Calls Try.prog 6 #[] w fun e' w' => e' = .returned (.bool true) ∧ Below w.heap.size w w'

theorem RtO.lk {x : VState} (h : RtO x) {w : World} (hx : OkState x) (hw : InW w x) : Lk w x := by
  refine ⟨hw.i11, h.c0, fun j hj => ?_, hx.o2.1, h.c7⟩
  have hv := h.cv j hj
  have ho := (hx.o11 j hj).2.2.1
  unfold vldB at hv
  simp only [Bool.and_eq_true, decide_eq_true_eq] at hv
  exact ⟨ho.1, hv.2.1⟩

theorem lvValidator_row {w : World} {b : Nat} {x : VValidator} {t : TypeId} (h : w.heap[b]? = some (.cells (cel (sValidator x)) t)) : (lvValidator ⟨b, 0, none⟩).run Try.prog w = .ok (.agg (cel (sValidator x))) w :=
  loadAt_var (load_row h 53 _ Try.underlying53 rfl (by rw [cel_size, slValidator]; kernel_rfl))

theorem OkState.r' {x : VState} (h : OkState x) : OkR x := ⟨h.o2, h.o11, h.o12, h.o14, h.o21⟩

theorem InW.r' {w : World} {x : VState} (h : InW w x) : InR w x := ⟨h.i11, h.i12, h.i21⟩

set_option maxHeartbeats 4000000 in
theorem lookActives_law (pAw : PAwake) (pA : PActive) (pS : PSlash) (pL : PActives) (x : VState) (e : Int) (w : World) (hx : OkState x) (hw : InW w x) :
    Calls Try.prog 3 #[.agg (cel (sState x)), .int .u64 e] w fun e' w' => e' = .returned (.bool true) ∧ Below w.heap.size w w' := by
  obtain ⟨W0, hW0⟩ : ∃ W, w.alloc (.cells (cel (sState x)) 49) = W := ⟨_, rfl⟩
  have r0 : W0.heap[w.heap.size]? = some (.cells (cel (sState x)) 49) := by rw [← hW0]; exact heap_new rfl
  have hB0 : Below w.heap.size w W0 := by rw [← hW0]; exact (Below.refl _ _).alloc (Nat.le_refl _) _
  have z0 : w.heap.size < W0.heap.size := (Array.getElem?_eq_some_iff.1 r0).1
  have hld : ∀ W : World, Below W0.heap.size W0 W → (lvState ⟨w.heap.size, 0, none⟩).run Try.prog W = .ok (.agg (cel (sState x))) W := fun W h => lvState_run ((h.block _ z0).trans r0)
  have hw0 := hw.below hB0
  have hri : ∀ W : World, Below W0.heap.size W0 W → Calls Try.prog 7 #[.agg (cel (sState x))] W fun e w' => e = .returned (.bool (rightB x)) ∧ Below W.heap.size W w' := fun W h => rright_any x W hx.r' (hw0.below h).r' ⟨hx.o10.1, hx.o4.1.1, hx.o18.1.1, hx.o19.1.1, hx.o20.1.1⟩
  have zv := zeroValidator
  have HB := hid hB0
  have HW0 := hid hW0
  have HLD := hid hld
  cases hR : rightB x
  · rw [hR] at hri
    have HRI := hid hri
    clear hri hB0 hW0 hld hw0 hw hx r0
    go_enter Try.func3, Try.ntmps3
    go_upto_region 1 with fail
    rw [HW0.out]
    clear HW0
    go_upto_region 3 with (go_at_call 6; refine (pAw _).mono ?_; rintro e' w1 ⟨rfl, hb1⟩)
    have l1 := HLD.out w1 hb1
    go_wp2_with (go_at_call 7; refine (HRI.out w1 hb1).mono ?_; rintro e' w2 ⟨rfl, hb2⟩)
    go_ret
    exact ⟨rfl, HB.out.trans ((hb1.trans (hb2.mono hb1.size)).mono (by omega))⟩
  · rw [hR] at hri
    have hO := rightB_out hR
    have hk0 : Lk W0 x := hO.lk hx hw0
    have hok := hx.o11
    have hnb := hO.c0
    have hcs : ∀ W : World, Below W0.heap.size W0 W → W.cell? ⟨w.heap.size, 721, none⟩ = some (.slice x.f11.a x.f11.n x.f11.c) := fun W h => cS11 ((h.block _ z0).trans r0)
    have hel := hk0.el
    have hpa : ∀ W : World, Below W0.heap.size W0 W → Calls Try.prog 13 #[.agg (cel (sState x)), .int .u64 e] W fun e' w' => ∃ a c, e' = .returned (.slice a (acL x.f11.z e x.f11.n).length c) ∧ Nml w' a (acL x.f11.z e x.f11.n) ∧ Below W.heap.size W w' := fun W h => pL x e W (hk0.below h) hok
    have hrp : ∀ W : World, Below W0.heap.size W0 W → Calls Try.prog 14 #[.agg (cel (sState x)), .int .u64 e] W fun e' w' => ∃ a c, e' = .returned (.slice a (acL x.f11.z e x.f11.n).length c) ∧ Nml w' a (acL x.f11.z e x.f11.n) ∧ Below W.heap.size W w' := fun W h => ractives_any x e W (hk0.below h)
    have hln := acL_len x.f11.z e x.f11.n
    generalize x.f11.a = A at *
    generalize x.f11.n = n at *
    generalize x.f11.c = C at *
    generalize x.f11.z = z at *
    have hsm : ∀ (W : World) a c b d, Nml W a (acL z e n) → Nml W b (acL z e n) → Calls Try.prog 12 #[.slice a (acL z e n).length c, .slice b (acL z e n).length d] W fun e w' => e = .returned (.bool true) ∧ Below W.heap.size W w' := fun W a c b d h1 h2 => same_nms a b (acL z e n).length c d _ W h1 h2 (by omega)
    generalize acL z e n = L at *
    have HRI := hid hri
    have HOK := hid hok
    have HCS := hid hcs
    have HEL := hid hel
    have HPA := hid hpa
    have HRP := hid hrp
    have HSM := hid hsm
    clear hri hok hcs hel hpa hrp hsm hB0 hW0 hld hw0 hw hx r0 hO hk0 hR hln
    go_enter Try.func3, Try.ntmps3
    go_upto_region 1 with fail
    rw [HW0.out]
    clear HW0
    go_upto_region 3 with (go_at_call 6; refine (pAw _).mono ?_; rintro e' w1 ⟨rfl, hb1⟩)
    have l1 := HLD.out w1 hb1
    have HB1 := hid hb1
    clear hb1
    go_wp2_with (go_at_call 7; refine (HRI.out w1 HB1.out).mono ?_; rintro e' w2 ⟨rfl, hb2⟩)
    have hw2 := HB1.out.trans (hb2.mono HB1.out.size)
    have HW2 := hid hw2
    clear hw2 hb2 l1 HB1
    go_loopw [5] (fun c wr => ∃ k : Nat, k ≤ n ∧ c = .int .i64 k ∧ Below W0.heap.size W0 wr) (fun c _ => n - (intOf c).toNat)
    case atStart => exact ⟨0, by omega, rfl, HW2.out⟩
    case round =>
      obtain ⟨k, hk, rfl, hw⟩ := hrel
      have c0 := HCS.out wr hw
      by_cases hkn : k < n
      · have k1 : (k : Int) < (n : Int) := by omega
        have k2 : (0 : Int) ≤ (k : Int) := by omega
        rcases HEL.out.below hw with h0 | ⟨b, off, ea, hbl, hc⟩
        · omega
        subst ea
        have lv := lvValidator_at (hc k hkn)
        have ix := fun W => ixValidator_run W b off n C k hkn
        obtain ⟨P, eP⟩ : ∃ P, off + 86 * k = P := ⟨_, rfl⟩
        rw [eP] at lv
        simp only [eP] at ix
        have hA := fun W : World => pA (z k) e W (HOK.out k hkn)
        have hRA := fun W : World => ractive_any (z k) e W
        have hSl := fun W : World => pS (z k) e W (HOK.out k hkn)
        have hRS := fun W : World => rslash_any (z k) e W
        generalize actB (z k) e = b1 at *
        generalize slaB (z k) e = b2 at *
        obtain ⟨V, hV⟩ : ∃ V, z k = V := ⟨_, rfl⟩
        rw [hV] at lv hA hRA hSl hRS
        have sv := svValidator_newv wr oValidator V
        obtain ⟨W1, hW1⟩ : ∃ W, wr.alloc (.cells (cel (sValidator V)) 53) = W := ⟨_, rfl⟩
        rw [hW1] at sv
        have r1 : W1.heap[wr.heap.size]? = some (.cells (cel (sValidator V)) 53) := by rw [← hW1]; exact heap_new rfl
        have z1 : wr.heap.size < W1.heap.size := (Array.getElem?_eq_some_iff.1 r1).1
        have hB1 : Below W0.heap.size W0 W1 := by rw [← hW1]; exact hw.alloc hw.size _
        obtain ⟨y, ey⟩ : ∃ y, wr.heap.size = y := ⟨_, rfl⟩
        rw [ey] at sv r1 z1
        have hlv : ∀ W : World, Below W1.heap.size W1 W → (lvValidator ⟨y, 0, none⟩).run Try.prog W = .ok (.agg (cel (sValidator V))) W := fun W h => lvValidator_row ((h.block _ z1).trans r1)
        have hdr : Below W1.heap.size W1 W1.drew := (Below.refl _ _).drew
        have HDR := hid hdr
        have HLV := hid hlv
        have HA := hid hA
        have HRA := hid hRA
        have HSL := hid hSl
        have HRS := hid hRS
        have HB1 := hid hB1
        clear hdr hlv hA hRA hSl hRS hB1 r1 z1 hc hbl eP hV hw
        go_upto_region 9 with fail
        clear sv lv ix c0 ey hW1
        refine wp_region_noPanic ?_
        refine wp_region_held_drew (S := fun W => Below W1.heap.size W1 W) (by kernel_rfl) (HDR.out) (fun hHeld => ?_)
        refine tk 0 (v := ?v1) ?y1 hHeld ?r1
        case y1 => intro w hSw; have ld := HLV.out _ hSw; go_simp; try with_reducible rfl
        refine tk 1 (v := ?v2) ?y2 hHeld ?r2
        case y2 => intro w hSw; go_simp; try with_reducible rfl
        refine tk 3 (v := ?v3) ?y3 hHeld ?r3
        case y3 => intro w hSw; have ld := HLV.out _ hSw; go_simp; try with_reducible rfl
        refine tk 4 (v := ?v4) ?y4 hHeld ?r4
        case y4 => intro w hSw; go_simp; try with_reducible rfl
        try simp only [Act.put, List.setIfInBounds_toArray, List.set_cons_zero, List.set_cons_succ, Array.toArray_toList, List.getElem_toArray, List.getElem_cons_zero, List.getElem_cons_succ]
        refine wpAnyH_ready (rs := [2]) (by kernel_rfl) (by simp) ?_
        refine AllReadyH.cons rfl (fun K hK => ?_) AllReadyH.nil
        go_simp
        refine (HA.out _).mono ?_
        rintro e' w2 ⟨rfl, hb2⟩
        dsimp only
        have hB2 : Below W1.heap.size W1 w2 := HDR.out.trans hb2
        refine hK.out _ _ (hB2) (fun hHeld => ?_)
        clear hK K
        try simp only [Act.put, List.setIfInBounds_toArray, List.set_cons_zero, List.set_cons_succ, Array.toArray_toList, List.getElem_toArray, List.getElem_cons_zero, List.getElem_cons_succ]
        refine wpAnyH_ready (rs := [5]) (by kernel_rfl) (by simp) ?_
        refine AllReadyH.cons rfl (fun K hK => ?_) AllReadyH.nil
        go_simp
        refine (HRA.out _).mono ?_
        rintro e' w3 ⟨rfl, hb3⟩
        dsimp only
        have hB3 : Below W1.heap.size W1 w3 := hB2.trans (hb3.mono hB2.size)
        refine hK.out _ _ (hB3) (fun hHeld => ?_)
        clear hK K
        try simp only [Act.put, List.setIfInBounds_toArray, List.set_cons_zero, List.set_cons_succ, Array.toArray_toList, List.getElem_toArray, List.getElem_cons_zero, List.getElem_cons_succ]
        refine tk 6 (v := ?v5) ?y5 hHeld ?r5
        case y5 => intro w hSw; go_simp; try with_reducible rfl
        refine tk 7 (v := ?v6) ?y6 hHeld ?r6
        case y6 => intro w hSw; go_simp; try with_reducible rfl
        refine tk 8 (v := ?v7) ?y7 hHeld ?r7
        case y7 => intro w hSw; have ld := HLV.out _ hSw; go_simp; try with_reducible rfl
        refine tk 9 (v := ?v8) ?y8 hHeld ?r8
        case y8 => intro w hSw; go_simp; try with_reducible rfl
        refine tk 11 (v := ?v9) ?y9 hHeld ?r9
        case y9 => intro w hSw; have ld := HLV.out _ hSw; go_simp; try with_reducible rfl
        refine tk 12 (v := ?v10) ?y10 hHeld ?r10
        case y10 => intro w hSw; go_simp; try with_reducible rfl
        try simp only [Act.put, List.setIfInBounds_toArray, List.set_cons_zero, List.set_cons_succ, Array.toArray_toList, List.getElem_toArray, List.getElem_cons_zero, List.getElem_cons_succ]
        refine wpAnyH_ready (rs := [10]) (by kernel_rfl) (by simp) ?_
        refine AllReadyH.cons rfl (fun K hK => ?_) AllReadyH.nil
        go_simp
        refine (HSL.out _).mono ?_
        rintro e' w4 ⟨rfl, hb4⟩
        dsimp only
        have hB4 : Below W1.heap.size W1 w4 := hB3.trans (hb4.mono hB3.size)
        refine hK.out _ _ (hB4) (fun hHeld => ?_)
        clear hK K
        try simp only [Act.put, List.setIfInBounds_toArray, List.set_cons_zero, List.set_cons_succ, Array.toArray_toList, List.getElem_toArray, List.getElem_cons_zero, List.getElem_cons_succ]
        refine wpAnyH_ready (rs := [13]) (by kernel_rfl) (by simp) ?_
        refine AllReadyH.cons rfl (fun K hK => ?_) AllReadyH.nil
        go_simp
        refine (HRS.out _).mono ?_
        rintro e' w5 ⟨rfl, hb5⟩
        dsimp only
        have hB5 : Below W1.heap.size W1 w5 := hB4.trans (hb5.mono hB4.size)
        refine hK.out _ _ (hB5) (fun hHeld => ?_)
        clear hK K
        try simp only [Act.put, List.setIfInBounds_toArray, List.set_cons_zero, List.set_cons_succ, Array.toArray_toList, List.getElem_toArray, List.getElem_cons_zero, List.getElem_cons_succ]
        refine tk 14 (v := ?v11) ?y11 hHeld ?r11
        case y11 => intro w hSw; go_simp; try with_reducible rfl
        refine tk 15 (v := ?v12) ?y12 hHeld ?r12
        case y12 => intro w hSw; go_simp; try with_reducible rfl
        try simp only [Act.put, List.setIfInBounds_toArray, List.set_cons_zero, List.set_cons_succ, Array.toArray_toList, List.getElem_toArray, List.getElem_cons_zero, List.getElem_cons_succ]
        refine wpAnyH_done (by kernel_rfl) ?_ _
        refine NoPanic.normal ?_
        have hfin : Below W0.heap.size W0 w5 := HB1.out.trans (hB5.mono HB1.out.size)
        go_wp2
        go_roundw
        case rel => exact ⟨k + 1, by omega, by go_num, hfin⟩
        case measure => simp [intOf]; omega
      · have HW := hid hw
        clear hw
        go_upto_region 11 with fail
        clear c0
        refine wp_region_noPanic ?_
        refine wp_region_held_drew (S := fun W => Below W0.heap.size W0 W) (by kernel_rfl) (HW.out.drew) (fun hHeld => ?_)
        refine tk 0 (v := ?v13) ?y13 hHeld ?r13
        case y13 => intro w hSw; have ld := HLD.out _ hSw; go_simp; try with_reducible rfl
        refine tk 1 (v := ?v14) ?y14 hHeld ?r14
        case y14 => intro w hSw; go_simp; try with_reducible rfl
        refine tk 3 (v := ?v15) ?y15 hHeld ?r15
        case y15 => intro w hSw; have ld := HLD.out _ hSw; go_simp; try with_reducible rfl
        refine tk 4 (v := ?v16) ?y16 hHeld ?r16
        case y16 => intro w hSw; go_simp; try with_reducible rfl
        try simp only [Act.put, List.setIfInBounds_toArray, List.set_cons_zero, List.set_cons_succ, Array.toArray_toList, List.getElem_toArray, List.getElem_cons_zero, List.getElem_cons_succ]
        refine wpAnyH_ready (rs := [2]) (by kernel_rfl) (by simp) ?_
        refine AllReadyH.cons rfl (fun K hK => ?_) AllReadyH.nil
        go_simp
        refine (HPA.out _ HW.out.drew).mono ?_
        rintro e' w2 ⟨a2, c2, rfl, hn2, hb2⟩
        dsimp only
        have hB2 : Below W0.heap.size W0 w2 := HW.out.drew.trans (hb2.mono HW.out.size)
        refine hK.out _ _ (hB2) (fun hHeld => ?_)
        clear hK K
        try simp only [Act.put, List.setIfInBounds_toArray, List.set_cons_zero, List.set_cons_succ, Array.toArray_toList, List.getElem_toArray, List.getElem_cons_zero, List.getElem_cons_succ]
        refine wpAnyH_ready (rs := [5]) (by kernel_rfl) (by simp) ?_
        refine AllReadyH.cons rfl (fun K hK => ?_) AllReadyH.nil
        go_simp
        refine (HRP.out _ hB2).mono ?_
        rintro e' w3 ⟨a3, c3, rfl, hn3, hb3⟩
        dsimp only
        have hB3 : Below W0.heap.size W0 w3 := hB2.trans (hb3.mono hB2.size)
        refine hK.out _ _ (hB3) (fun hHeld => ?_)
        clear hK K
        try simp only [Act.put, List.setIfInBounds_toArray, List.set_cons_zero, List.set_cons_succ, Array.toArray_toList, List.getElem_toArray, List.getElem_cons_zero, List.getElem_cons_succ]
        refine wpAnyH_ready (rs := [6]) (by kernel_rfl) (by simp) ?_
        refine AllReadyH.cons rfl (fun K hK => ?_) AllReadyH.nil
        go_simp
        refine (HSM.out w3 a2 c2 a3 c3 (hn2.below hb3) hn3).mono ?_
        rintro e' w4 ⟨rfl, hb4⟩
        dsimp only
        have hB4 : Below W0.heap.size W0 w4 := hB3.trans (hb4.mono hB3.size)
        refine hK.out _ _ (hB4) (fun hHeld => ?_)
        clear hK K
        try simp only [Act.put, List.setIfInBounds_toArray, List.set_cons_zero, List.set_cons_succ, Array.toArray_toList, List.getElem_toArray, List.getElem_cons_zero, List.getElem_cons_succ]
        refine tk 7 (v := ?v17) ?y17 hHeld ?r17
        case y17 => intro w hSw; go_simp; try with_reducible rfl
        try simp only [Act.put, List.setIfInBounds_toArray, List.set_cons_zero, List.set_cons_succ, Array.toArray_toList, List.getElem_toArray, List.getElem_cons_zero, List.getElem_cons_succ]
        refine wpAnyH_done (by kernel_rfl) ?_ _
        refine NoPanic.normal ?_
        go_wp2
        go_ret
        exact ⟨rfl, HB.out.trans (hB4.mono (by omega))⟩

end Go.Proofs.Ytmjdofegmelgbaa
